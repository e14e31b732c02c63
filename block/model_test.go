package block_test

import (
	"slices"
	"strconv"
	"strings"
	"testing"

	"silo/api"
	"silo/block"
	"silo/crc"
	"silo/six"
)

// number answers the form of a Count.
func number(n int) string {
	w := six.New()
	w.Count(n)
	return w.Bytes()
}

// piece answers an entry's bytes: how many bytes are shared, the rest of the key, the second Count and what stands behind it.
func piece(shared int, rest string, second int, val string) string {
	return number(shared) + number(len(rest)) + rest + number(second) + val
}

// alike answers how many bytes two keys begin with alike: from the whole of the second one on downwards the first that the other has.
func alike(ahead, key string) int {
	n := len(key)
	for !strings.HasPrefix(ahead, key[:n]) {
		n--
	}
	return n
}

// paperCheck is Check worked out another way.
func paperCheck(list []api.Entry) api.Errno {
	if len(list) >= 65537 {
		return api.ErrLong
	}
	for i := range list {
		if max(len(list[i].Key), len(list[i].Val)) >= 65537 {
			return api.ErrLong
		}
		if list[i].Gone && len(list[i].Val) != 0 {
			return api.ErrArg
		}
		if i != 0 && strings.Compare(list[i-1].Key, list[i].Key) >= 0 {
			return api.ErrArg
		}
	}
	return api.OK
}

// paperPack is Pack of what may be packed, worked out another way.
func paperPack(list []api.Entry) string {
	var body strings.Builder
	body.WriteString(number(len(list)))
	ahead := ""
	for _, x := range list {
		n, second := alike(ahead, x.Key), len(x.Val)+1
		if x.Gone {
			second = 0
		}
		body.WriteString(piece(n, x.Key[n:], second, x.Val))
		ahead = x.Key
	}
	return crc.Put(body.String())
}

// paperOpen is Open worked out another way: with whole keys.
func paperOpen(s string) ([]api.Entry, api.Errno) {
	body, e := crc.Take(s)
	if e != api.OK {
		return nil, e
	}
	r := six.Over(body)
	count, e := r.Count()
	var list []api.Entry
	for e == api.OK && len(list) < count {
		var x api.Entry
		x, e = paperEntry(r, list)
		list = append(list, x)
	}
	switch {
	case e != api.OK:
		return nil, e
	case count > 65536:
		return nil, api.ErrLong
	case r.Rest() != "":
		return nil, api.ErrTail
	}
	return list, api.OK
}

func paperEntry(r *six.Reader, list []api.Entry) (api.Entry, api.Errno) {
	ahead := ""
	if len(list) > 0 {
		ahead = list[len(list)-1].Key
	}
	n, e := r.Count()
	if e != api.OK {
		return api.Entry{}, e
	}
	rest, e := r.Text()
	if e != api.OK {
		return api.Entry{}, e
	}
	if n > len(ahead) || alike(ahead, ahead[:n]+rest) != n {
		return api.Entry{}, api.ErrForm
	}
	x := api.Entry{Key: ahead[:n] + rest}
	if len(x.Key) > 65536 {
		return api.Entry{}, api.ErrLong
	}
	second, e := r.Count()
	if e != api.OK {
		return api.Entry{}, e
	}
	if second > 65537 {
		return api.Entry{}, api.ErrLong
	}
	if second-1 > len(r.Rest()) {
		return api.Entry{}, api.ErrShort
	}
	x.Gone = second == 0
	x.Val, _ = r.Raw(max(second, 1) - 1)
	if len(list) > 0 && strings.Compare(ahead, x.Key) >= 0 {
		return api.Entry{}, api.ErrForm
	}
	return x, api.OK
}

// dice are numbers that look like no others, the same ones in each run.
type dice uint64

// roll answers a number from 0 on, below n.
func (x *dice) roll(n int) int {
	*x = *x*6364136223846793005 + 1442695040888963407
	return int(uint64(*x)>>33) % n
}

// text answers so many bytes.
func (x *dice) text(size int) string {
	list := make([]byte, size)
	for i := range list {
		list[i] = byte(x.roll(256))
	}
	return string(list)
}

// key answers a key that is likely to share bytes with others.
func (x *dice) key() string {
	switch x.roll(12) {
	case 0:
		return x.text(x.roll(80))
	case 1:
		return strings.Repeat("a", 50+x.roll(100)) + x.text(x.roll(2))
	}
	list := make([]byte, x.roll(7))
	for i := range list {
		list[i] = "\x00abc\xff"[x.roll(5)]
	}
	return string(list)
}

// entry answers an entry that may be packed.
func (x *dice) entry(key string) api.Entry {
	switch x.roll(4) {
	case 0:
		return api.Entry{Key: key, Gone: true}
	case 1:
		return api.Entry{Key: key}
	case 2:
		return api.Entry{Key: key, Val: x.text(x.roll(150))}
	}
	return api.Entry{Key: key, Val: x.text(1 + x.roll(3))}
}

// rising answers entries by rising keys, no more than so many.
func (x *dice) rising(n int) []api.Entry {
	var keys []string
	for range n {
		keys = append(keys, x.key())
	}
	slices.Sort(keys)
	var list []api.Entry
	for _, key := range slices.Compact(keys) {
		list = append(list, x.entry(key))
	}
	return list
}

// wrong answers a list in which something may be wrong, of no less than one entry.
func (x *dice) wrong(list []api.Entry) []api.Entry {
	list = slices.Clone(list)
	at, to := x.roll(len(list)), x.roll(len(list))
	switch x.roll(5) {
	case 0:
		list[at], list[to] = list[to], list[at]
	case 1:
		list[at].Gone = !list[at].Gone
	case 2:
		list[at].Key = list[to].Key
	case 3:
		list[at].Key += "a"
	case 4:
		list = slices.Insert(list, at, list[at])
	}
	return list
}

// turned answers a body of which some bytes are others, are gone or have come.
func (x *dice) turned(body string) string {
	s := []byte(body)
	for range 1 + x.roll(2) {
		if len(s) == 0 {
			return ""
		}
		at := x.roll(len(s))
		switch x.roll(5) {
		case 0:
			s[at] = byte(x.roll(256))
		case 1:
			s[at]++
		case 2:
			s[at]--
		case 3:
			s = slices.Delete(s, at, at+1)
		case 4:
			s = slices.Insert(s, at, byte(x.roll(256)))
		}
	}
	return string(s)
}

// wantOpen holds an Open against the other working-out, and what it takes against its Pack; it answers what Open told.
func wantOpen(t *testing.T, s string) api.Errno {
	t.Helper()
	list, e := block.Open(s)
	want, we := paperOpen(s)
	if e != we || !slices.Equal(list, want) {
		t.Fatalf("Open(%s) = %s, %d; want %s, %d", short(s), told(list), e, told(want), we)
	}
	if e != api.OK {
		return e
	}
	if got, e := block.Pack(list); e != api.OK || got != s {
		t.Fatalf("Open took %s; Pack of its entries = %s, %d", short(s), short(got), e)
	}
	return api.OK
}

// wantPack holds Check and Pack of entries against the other working-out, and opens what was packed; it answers what Check told.
func wantPack(t *testing.T, list []api.Entry) api.Errno {
	t.Helper()
	want := paperCheck(list)
	if e := block.Check(list); e != want {
		t.Fatalf("Check(%s) = %d; want %d", told(list), e, want)
	}
	s, e := block.Pack(list)
	if want != api.OK {
		if s != "" || e != want {
			t.Fatalf("Pack(%s) = %s, %d; want nothing, %d", told(list), short(s), e, want)
		}
		return want
	}
	if paper := paperPack(list); s != paper || e != api.OK {
		t.Fatalf("Pack(%s) = %s, %d; want %s, OK", told(list), short(s), e, short(paper))
	}
	if got, e := block.Open(s); e != api.OK || !slices.Equal(got, list) {
		t.Fatalf("Open of the Pack of %s = %s, %d", told(list), told(got), e)
	}
	return api.OK
}

// short tells bytes, the first ones of many.
func short(s string) string {
	if len(s) > 300 {
		return strconv.Quote(s[:300]) + ".. (" + strconv.Itoa(len(s)) + " bytes)"
	}
	return strconv.Quote(s)
}

// told tells entries, the first ones of many.
func told(list []api.Entry) string {
	var parts []string
	for i, x := range list {
		if i == 8 {
			parts = append(parts, "..")
			break
		}
		if x.Gone {
			parts = append(parts, short(x.Key)+" gone "+short(x.Val))
		} else {
			parts = append(parts, short(x.Key)+"="+short(x.Val))
		}
	}
	return strconv.Itoa(len(list)) + " entries [" + strings.Join(parts, ", ") + "]"
}

// P8.1, P8.4: Check, Pack and Open of any lists, held against the other working-out.
func TestPackAgainstPaper(t *testing.T) {
	met := map[api.Errno]int{}
	for seed := range 3000 {
		roll := dice(seed)
		list := roll.rising(roll.roll(40))
		if e := wantPack(t, list); e != api.OK {
			t.Fatalf("seed %d: Pack = %d", seed, e)
		}
		if len(list) > 0 {
			met[wantPack(t, roll.wrong(list))]++
		}
	}
	for _, e := range []api.Errno{api.OK, api.ErrArg} {
		if met[e] < 300 {
			t.Errorf("the answer %d was met %d times", e, met[e])
		}
	}
}

// P8.1: all lists of up to three entries out of a few keys and values.
func TestPackOfAllSmallLists(t *testing.T) {
	var all []api.Entry
	for _, key := range []string{"", "a", "ab", "b"} {
		for _, val := range []string{"", "x"} {
			all = append(all, api.Entry{Key: key, Val: val}, api.Entry{Key: key, Val: val, Gone: true})
		}
	}
	wantPack(t, nil)
	for _, x := range all {
		wantPack(t, []api.Entry{x})
		for _, y := range all {
			wantPack(t, []api.Entry{x, y})
			for _, z := range all {
				wantPack(t, []api.Entry{x, y, z})
			}
		}
	}
}

// P8.2, P8.4: Open of packs of which some bytes were turned, with a right sum behind, held against the other working-out.
func TestOpenAgainstPaper(t *testing.T) {
	met := map[api.Errno]int{}
	for seed := range 20000 {
		roll := dice(seed)
		s := paperPack(roll.rising(roll.roll(6)))
		wantOpen(t, s)
		met[wantOpen(t, crc.Put(roll.turned(s[:len(s)-4])))]++
	}
	for _, e := range []api.Errno{api.OK, api.ErrShort, api.ErrForm, api.ErrTail} {
		if met[e] < 300 {
			t.Errorf("the answer %d was met %d times", e, met[e])
		}
	}
}

// every calls look for each text of up to so many of these bytes, behind this one.
func every(ahead, bytes string, most int, look func(string)) {
	look(ahead)
	if most == 0 {
		return
	}
	for i := range len(bytes) {
		every(ahead+bytes[i:i+1], bytes, most-1, look)
	}
}

// P8.2, P8.4: Open of all short bodies out of a few bytes, and of all short second and third entries, held against the other working-out.
func TestOpenOfAllShortBodies(t *testing.T) {
	met := map[api.Errno]int{}
	look := func(body string) { met[wantOpen(t, crc.Put(body))]++ }
	every("", "\x00\x01\x40\x41\x42\x43\x80\xc0", 6, look)
	every("\x41", "\x00\x40\x41\x42ab", 7, look)
	every("\x42\x40\x42bb\x40", "\x40\x41\x42abc", 6, look)
	every("\x42\x40\x40\x42x", "\x40\x41\x42ab", 6, look)
	every("\x43\x40\x41a\x40\x41\x42bb\x41", "\x40\x41\x42\x43abc", 5, look)
	for _, e := range []api.Errno{api.OK, api.ErrShort, api.ErrForm, api.ErrTail} {
		if met[e] < 300 {
			t.Errorf("the answer %d was met %d times", e, met[e])
		}
	}
}
