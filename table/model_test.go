package table_test

import (
	"encoding/binary"
	"fmt"
	"math"
	"slices"
	"strings"
	"testing"

	"silo/api"
	"silo/block"
	"silo/bloom"
	"silo/crc"
	"silo/six"
	"silo/table"
)

// laid is a table in parts, each of which may be laid wrong, with right sums behind all of them.
type laid struct {
	blocks []string
	index  []api.Entry
	filter string // with its sum
	foot   [3]int
}

// number answers the form of a Count.
func number(n int) string {
	w := six.New()
	w.Count(n)
	return w.Bytes()
}

// place answers the value of an entry of the index.
func place(at, size int) string { return number(at) + number(size) }

// mustPack answers the bytes of a block.
func mustPack(list ...api.Entry) string {
	s, e := block.Pack(list)
	if e != api.OK {
		panic(fmt.Sprintf("Pack = %d", e))
	}
	return s
}

// lay lays a table in parts as the chapter says.
func lay(list []api.Entry, each, per int) laid {
	var x laid
	var keys []string
	at := 0
	for i := 0; i < len(list); i += each {
		s := mustPack(list[i:min(i+each, len(list))]...)
		x.blocks = append(x.blocks, s)
		x.index = append(x.index, api.Entry{Key: list[i].Key, Val: place(at, len(s))})
		at += len(s)
	}
	for _, y := range list {
		keys = append(keys, y.Key)
	}
	f, e := bloom.Make(per, keys...)
	if e != api.OK {
		panic(fmt.Sprintf("Make = %d", e))
	}
	x.filter = crc.Put(f.Pack())
	x.foot = [3]int{at, at + len(mustPack(x.index...)), len(list)}
	return x
}

// footOf answers the bytes of a foot.
func footOf(numbers ...int) string {
	var s []byte
	for _, n := range numbers {
		s = binary.BigEndian.AppendUint32(s, uint32(n))
	}
	return crc.Put(string(s))
}

// bytes answers the parts, one behind the other.
func (x laid) bytes() string {
	return strings.Join(x.blocks, "") + mustPack(x.index...) + x.filter + footOf(x.foot[:]...)
}

// fit lets the foot tell where the index and the filter begin.
func (x laid) fit() laid {
	x.foot[0] = len(strings.Join(x.blocks, ""))
	x.foot[1] = x.foot[0] + len(mustPack(x.index...))
	return x
}

// paper is a table worked out another way: it is read whole wherever it is looked at.
type paper struct {
	index []api.Entry
	ends  []int
	begin []int
	keys  *bloom.Filter
	count int
	read  table.Source
}

func paperOpen(size int, read table.Source) (*paper, api.Errno) {
	switch {
	case size < 0 || read == nil:
		return nil, api.ErrArg
	case size < 16:
		return nil, api.ErrShort
	}
	text, e := read(size-16, 16)
	if e == api.OK {
		text, e = crc.Take(text)
	}
	switch {
	case e != api.OK:
		return nil, e
	case len(text) < 12:
		return nil, api.ErrShort
	case len(text) > 12:
		return nil, api.ErrTail
	}
	var foot [3]uint32
	for i := range foot {
		foot[i] = binary.BigEndian.Uint32([]byte(text)[4*i:])
	}
	if uint64(foot[0]) > uint64(foot[1]) || uint64(foot[1]) > uint64(size-16) {
		return nil, api.ErrForm
	}
	x := &paper{count: int(foot[2]), read: read}
	if e := x.openIndex(int(foot[0]), int(foot[1])); e != api.OK {
		return nil, e
	}
	text, e = read(int(foot[1]), size-16-int(foot[1]))
	if e == api.OK {
		text, e = crc.Take(text)
	}
	if e == api.OK {
		x.keys, e = bloom.Open(text)
	}
	if e != api.OK {
		return nil, e
	}
	return x, api.OK
}

// openIndex reads the index that stands from here to there.
func (x *paper) openIndex(here, there int) api.Errno {
	text, e := x.read(here, there-here)
	if e == api.OK {
		x.index, e = block.Open(text)
	}
	if e != api.OK {
		return e
	}
	last := uint64(0)
	for _, y := range x.index {
		r := six.Over(y.Val)
		var told [2]int
		for i := range told {
			if told[i], e = r.Count(); e != api.OK {
				return e
			}
		}
		// Both are below 2^63: their sum is a number without a sign.
		end := uint64(told[0]) + uint64(told[1])
		if r.End() != api.OK || uint64(told[0]) != last || end > uint64(here) {
			return api.ErrForm
		}
		last = end
		x.begin, x.ends = append(x.begin, told[0]), append(x.ends, int(end))
	}
	none := len(x.index) == 0
	if last != uint64(here) || none && x.count != 0 || !none && x.count == 0 {
		return api.ErrForm
	}
	return api.OK
}

// block answers the entries of a block.
func (x *paper) block(i int) ([]api.Entry, api.Errno) {
	text, e := x.read(x.begin[i], x.ends[i]-x.begin[i])
	if e != api.OK {
		return nil, e
	}
	list, e := block.Open(text)
	if e == api.OK && (len(list) < 1 || list[0].Key != x.index[i].Key) {
		e = api.ErrForm
	}
	if e != api.OK {
		return nil, e
	}
	return list, api.OK
}

// answer is what a Get, or a call of what Walk answers, comes to, and how many blocks were read for it.
type answer struct {
	entry api.Entry
	ok    bool
	e     api.Errno
	reads int
}

func (x *paper) get(key string) answer {
	if !x.keys.Has(key) {
		return answer{}
	}
	for i := len(x.index) - 1; i >= 0; i-- {
		if strings.Compare(x.index[i].Key, key) > 0 {
			continue
		}
		list, e := x.block(i)
		for _, y := range list {
			if y.Key == key {
				return answer{y, true, api.OK, 1}
			}
		}
		return answer{e: e, reads: 1}
	}
	return answer{}
}

// walk answers all that a Walk from the key on tells, and what it tells behind that, again and again.
func (x *paper) walk(key string) (told []answer, last answer) {
	from, reads := 0, 0
	for i, y := range x.index {
		if strings.Compare(y.Key, key) <= 0 {
			from = i
		}
	}
	for i := from; i < len(x.index); i++ {
		list, e := x.block(i)
		reads++
		if e != api.OK {
			told = append(told, answer{e: e, reads: reads})
			return told, answer{e: e}
		}
		for _, y := range list {
			if strings.Compare(y.Key, key) >= 0 {
				told = append(told, answer{y, true, api.OK, reads})
				reads = 0
			}
		}
	}
	return append(told, answer{reads: reads}), answer{}
}

// asked answers a source that writes down what it is asked for.
func asked(read table.Source, list *[][2]int) table.Source {
	return func(at, size int) (string, api.Errno) {
		*list = append(*list, [2]int{at, size})
		return read(at, size)
	}
}

// wantAlike wants a table to be as the other working-out has it: opened, asked for keys, walked from them. It answers what Open told.
func wantAlike(t *testing.T, name string, size int, read table.Source, keys ...string) api.Errno {
	t.Helper()
	var mine, others [][2]int
	x, e := table.Open(size, asked(read, &mine))
	y, want := paperOpen(size, asked(read, &others))
	if e != want || (x == nil) != (e != api.OK) {
		t.Fatalf("%s: Open = %t, %d; want %d", name, x != nil, e, want)
	}
	wantSameReads(t, name, mine, others)
	if e != api.OK {
		return e
	}
	if x.Count() != y.count || x.Reads() != 0 {
		t.Fatalf("%s: Count, Reads = %d, %d; want %d, 0", name, x.Count(), x.Reads(), y.count)
	}
	for _, key := range keys {
		mine, others = nil, nil
		wantGet(t, name, x, key, y.get(key))
		wantSameReads(t, name, mine, others)
		mine, others = nil, nil
		told, last := y.walk(key)
		wantWalk(t, name, x, key, told, last)
		wantSameReads(t, name, mine, others)
		mine = nil
		wantScan(t, name, x, key, told)
		wantSameReads(t, name, mine, others)
	}
	return api.OK
}

// wantSameReads wants the same bytes to have been read as the other working-out has read.
func wantSameReads(t *testing.T, name string, mine, others [][2]int) {
	t.Helper()
	if !slices.Equal(mine, others) {
		t.Fatalf("%s: read %v; want %v", name, mine, others)
	}
}

func wantGet(t *testing.T, name string, x *table.Table, key string, want answer) {
	t.Helper()
	ahead := x.Reads()
	y, ok, e := x.Get(key)
	if got := (answer{y, ok, e, x.Reads() - ahead}); got != want {
		t.Fatalf("%s: Get(%s) = %s; want %s", name, short(key), say(got), say(want))
	}
}

func wantWalk(t *testing.T, name string, x *table.Table, key string, told []answer, last answer) {
	t.Helper()
	ahead := x.Reads()
	next := x.Walk(key)
	if x.Reads() != ahead {
		t.Fatalf("%s: Walk(%s) has read %d blocks", name, short(key), x.Reads()-ahead)
	}
	for i, want := range append(slices.Clone(told), last, last) {
		ahead := x.Reads()
		y, ok, e := next()
		if got := (answer{y, ok, e, x.Reads() - ahead}); got != want {
			t.Fatalf("%s: Walk(%s), call %d = %s; want %s", name, short(key), i, say(got), say(want))
		}
	}
}

// wantScan wants a Scan to tell what a Walk does, but for the end, of which it tells nothing.
func wantScan(t *testing.T, name string, x *table.Table, key string, told []answer) {
	t.Helper()
	begin, reads := x.Reads(), 0
	var want []answer
	for _, y := range told {
		reads += y.reads
		if y.ok || y.e != api.OK {
			y.reads = reads
			want = append(want, y)
		}
	}
	var got []answer
	for y, e := range x.Scan(key) {
		got = append(got, answer{y, e == api.OK, e, x.Reads() - begin})
	}
	if !slices.Equal(got, want) || x.Reads()-begin != reads {
		t.Fatalf("%s: Scan(%s) told %d things and read %d blocks; want %d, %d", name, short(key), len(got), x.Reads()-begin, len(want), reads)
	}
}

// short answers a text that is fit to be told.
func short(s string) string {
	if len(s) > 40 {
		return fmt.Sprintf("%q and so on, %d bytes", s[:40], len(s))
	}
	return fmt.Sprintf("%q", s)
}

// say tells of an answer.
func say(x answer) string {
	return fmt.Sprintf("{%s: %s, gone %t} %t, %d, %d blocks read", short(x.entry.Key), short(x.entry.Val), x.entry.Gone, x.ok, x.e, x.reads)
}

// dice are numbers that look like no others, the same ones in each run.
type dice uint64

// roll answers a number from 0 on, below n.
func (x *dice) roll(n int) int {
	*x = *x*6364136223846793005 + 1442695040888963407
	return int(uint64(*x)>>33) % n
}

// text answers so many letters out of the first few of the alphabet.
func (x *dice) text(size int) string {
	s := make([]byte, size)
	for i := range s {
		s[i] = "abc\x00\xff"[x.roll(5)]
	}
	return string(s)
}

// entries answers up to so many entries by rising keys.
func (x *dice) entries(most int) []api.Entry {
	found := map[string]api.Entry{}
	for range x.roll(most + 1) {
		y := api.Entry{Key: x.text(x.roll(5)), Val: x.text(x.roll(4))}
		if x.roll(4) == 0 {
			y.Val, y.Gone = "", true
		}
		found[y.Key] = y
	}
	list := make([]api.Entry, 0, len(found))
	for _, y := range found {
		list = append(list, y)
	}
	slices.SortFunc(list, func(a, b api.Entry) int { return strings.Compare(a.Key, b.Key) })
	return list
}

// keys answers the keys of the entries, and others.
func (x *dice) keys(list []api.Entry) []string {
	keys := []string{"", "\xff\xff\xff\xff\xff\xff"}
	for _, y := range list {
		keys = append(keys, y.Key)
	}
	for range 6 {
		keys = append(keys, x.text(x.roll(6)))
	}
	return keys
}

// P9.1 to P9.5, P9.7: random tables, as Build makes them.
func TestRandomTables(t *testing.T) {
	x := dice(9)
	for n := range 1500 {
		list := x.entries(30)
		each, per := 1+x.roll(9), 1+x.roll(32)
		s, e := table.Build(list, each, per)
		if want := lay(list, each, per).bytes(); e != api.OK || s != want {
			t.Fatalf("Build of %d entries, %d in a block, %d bits = %x, %d; want %x", len(list), each, per, s, e, want)
		}
		name := fmt.Sprintf("table %d", n)
		if e := wantAlike(t, name, len(s), over(s), x.keys(list)...); e != api.OK {
			t.Fatalf("%s: Open = %d", name, e)
		}
		wantJust(t, name, s, each, list, x.keys(list))
	}
}

// wantJust wants Get and Scan to tell just these entries, a Get to read one block at most, and a Scan of all each block once.
func wantJust(t *testing.T, name, s string, each int, list []api.Entry, keys []string) {
	t.Helper()
	x, e := table.Open(len(s), over(s))
	if e != api.OK {
		t.Fatalf("%s: Open = %d", name, e)
	}
	if x.Count() != len(list) {
		t.Fatalf("%s: Count = %d; want %d", name, x.Count(), len(list))
	}
	for _, key := range keys {
		var want api.Entry
		at := slices.IndexFunc(list, func(y api.Entry) bool { return y.Key == key })
		if at >= 0 {
			want = list[at]
		}
		ahead := x.Reads()
		if y, ok, e := x.Get(key); e != api.OK || ok != (at >= 0) || y != want {
			t.Fatalf("%s: Get(%s) = %v, %t, %d; want %v", name, short(key), y, ok, e, want)
		}
		if n := x.Reads() - ahead; n > 1 || at >= 0 && n != 1 {
			t.Fatalf("%s: Get(%s) read %d blocks", name, short(key), n)
		}
	}
	ahead := x.Reads()
	var told []api.Entry
	for y, e := range x.Scan("") {
		if e != api.OK {
			t.Fatalf("%s: Scan tells %d", name, e)
		}
		told = append(told, y)
	}
	if !slices.Equal(told, list) {
		t.Fatalf("%s: Scan tells %d entries; want %d", name, len(told), len(list))
	}
	if n := x.Reads() - ahead; n != (len(list)+each-1)/each {
		t.Fatalf("%s: Scan read %d blocks of %d entries, %d in a block", name, n, len(list), each)
	}
}

// P9.1 to P9.4: tables in which several things are wrong, with right sums behind them: the first one that the chapter names is told.
func TestRandomFaults(t *testing.T) {
	x := dice(99)
	met, walked := map[api.Errno]int{}, map[api.Errno]int{}
	for n := range 30000 {
		list := x.entries(8)
		y := lay(list, 1+x.roll(3), 1+x.roll(4))
		for range 1 + x.roll(3) {
			x.spoil(&y)
		}
		s := y.bytes()
		size := len(s)
		read := over(s)
		if x.roll(4) == 0 {
			read = x.refusing(read, size, y.foot)
		}
		if x.roll(20) == 0 {
			size += x.roll(5) - 2
		}
		keys := x.keys(list)
		e := wantAlike(t, fmt.Sprintf("table %d", n), size, read, keys...)
		met[e]++
		if e == api.OK {
			z, _ := paperOpen(size, read)
			told, _ := z.walk("")
			walked[told[len(told)-1].e]++
		}
	}
	for _, e := range []api.Errno{api.OK, api.ErrShort, api.ErrForm, api.ErrSum, api.ErrTail, api.ErrDown} {
		if met[e] < 50 {
			t.Errorf("Open told %d but %d times", e, met[e])
		}
		if walked[e] < 10 {
			t.Errorf("Walk told %d but %d times", e, walked[e])
		}
	}
}

// refusing answers a source that refuses what stands in one part of the table.
func (x *dice) refusing(read table.Source, size int, foot [3]int) table.Source {
	from, to := x.roll(size), size
	switch x.roll(4) {
	case 0:
		from, to = 0, foot[0]
	case 1:
		from, to = foot[0], foot[1]
	case 2:
		from, to = foot[1], size-16
	}
	return func(at, size int) (string, api.Errno) {
		if at >= from && at < to {
			return "these bytes come beside an error", api.ErrDown
		}
		return read(at, size)
	}
}

// spoil lays one thing wrong (or, where there is no such thing, none).
func (x *dice) spoil(y *laid) {
	switch x.roll(9) {
	case 0:
		y.foot[x.roll(3)] += x.roll(7) - 3
	case 1:
		y.foot[x.roll(3)] = x.roll(120)
	case 2:
		y.filter = crc.Put([]string{"", "\x40", "\x41", "\x41\x48", "\x49\x48--------", "\x41\x47-------", "\x41\x48--------x", "\x40\x48--------"}[x.roll(8)])
	case 3:
		y.filter = y.filter[:x.roll(len(y.filter)+1)]
	case 4:
		x.spoilIndex(y)
	case 5:
		x.spoilIndex(y)
		*y = y.fit()
	case 6:
		x.spoilBlock(y, false)
	case 7:
		x.spoilBlock(y, true)
	case 8:
		if len(y.blocks) > 0 {
			y.blocks = y.blocks[:len(y.blocks)-1]
			*y = y.fit()
		}
	}
}

// spoilIndex lays one entry of the index wrong.
func (x *dice) spoilIndex(y *laid) {
	if len(y.index) == 0 {
		return
	}
	i := x.roll(len(y.index))
	switch z := &y.index[i]; x.roll(8) {
	case 0:
		*z = api.Entry{Key: z.Key, Gone: true}
	case 1:
		z.Val = z.Val[:x.roll(len(z.Val)+1)]
	case 2:
		z.Val += "@"
	case 3:
		z.Val = place(x.roll(40), x.roll(40))
	case 4:
		z.Val = place(0, math.MaxInt-x.roll(3))
	case 5:
		z.Val = "\x00" + z.Val
	case 6:
		r := six.Over(z.Val)
		at, _ := r.Count()
		size, _ := r.Count()
		z.Val = place(at, max(size+x.roll(3)-1, 0))
	case 7:
		y.index = slices.Delete(y.index, i, i+1)
		return
	}
	// What is gone has no value: it may have been spoiled twice.
	y.index[i].Gone = y.index[i].Gone && y.index[i].Val == ""
}

// spoilBlock lays one block wrong; fit: the index tells of it as it is now.
func (x *dice) spoilBlock(y *laid, fit bool) {
	if len(y.blocks) == 0 {
		return
	}
	i := x.roll(len(y.blocks))
	list, _ := block.Open(y.blocks[i])
	switch s := &y.blocks[i]; x.roll(6) {
	case 0:
		*s = mustPack()
	case 1:
		*s = mustPack(list[min(1, len(list)):]...)
	case 2:
		*s = (*s)[:x.roll(len(*s)+1)]
	case 3:
		*s = mustPack(append([]api.Entry{{Key: ""}}, slices.DeleteFunc(list, func(z api.Entry) bool { return z.Key == "" })...)...)
	case 4:
		*s = crc.Put("@@")
	case 5:
		turned := []byte(*s)
		if len(turned) > 0 {
			turned[x.roll(len(turned))]++
		}
		*s = string(turned)
	}
	if fit {
		at := 0
		for i := range y.index[:min(len(y.index), len(y.blocks))] {
			y.index[i] = api.Entry{Key: y.index[i].Key, Val: place(at, len(y.blocks[i]))}
			at += len(y.blocks[i])
		}
		*y = y.fit()
	}
}
