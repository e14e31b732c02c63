package bloom_test

import (
	"slices"
	"strconv"
	"testing"

	"silo/api"
	"silo/bloom"
	"silo/sha"
	"silo/six"
)

// hashesOf are the hashes of a filter by its bits for each key, worked out by hand.
var hashesOf = [...]int{
	1: 1, 2: 1, 3: 2, 4: 2, 5: 3, 6: 4, 7: 4, 8: 5, 9: 6, 10: 7, 11: 7, 12: 8, 13: 8, 14: 8, 15: 8, 16: 8,
	17: 8, 18: 8, 19: 8, 20: 8, 21: 8, 22: 8, 23: 8, 24: 8, 25: 8, 26: 8, 27: 8, 28: 8, 29: 8, 30: 8, 31: 8, 32: 8,
}

// paper is a filter worked out another way: a mark for each bit; where a key's bits stand comes out of the digits of its digest.
type paper struct {
	hashes int
	marks  []bool
}

// sizeOf counts up to the bits of a filter of so many keys.
func sizeOf(per, keys int) int {
	size := 64
	for size < per*keys {
		size += 64
	}
	return size
}

func newPaper(per int, keys ...string) *paper {
	p := &paper{hashes: hashesOf[per], marks: make([]bool, sizeOf(per, len(keys)))}
	for _, key := range keys {
		for _, n := range p.places(key) {
			p.marks[n] = true
		}
	}
	return p
}

// places answers the numbers of a key's bits, by long division of the digest's digits.
func (p *paper) places(key string) []int {
	var list []int
	digits := sha.Hex(sha.Sum(key))
	for i := range p.hashes {
		rest := 0
		for _, digit := range digits[8*i : 8*i+8] {
			n, _ := strconv.ParseInt(string(digit), 16, 64)
			rest = (16*rest + int(n)) % len(p.marks)
		}
		list = append(list, rest)
	}
	return list
}

func (p *paper) has(key string) bool {
	return !slices.ContainsFunc(p.places(key), func(n int) bool { return !p.marks[n] })
}

func (p *paper) ones() int {
	n := 0
	for _, mark := range p.marks {
		if mark {
			n++
		}
	}
	return n
}

func (p *paper) pack() string {
	var list []byte
	for at := 0; at < len(p.marks); at += 8 {
		b, worth := 0, 1
		for _, mark := range p.marks[at : at+8] {
			if mark {
				b += worth
			}
			worth *= 2
		}
		list = append(list, byte(b))
	}
	return number(p.hashes) + number(len(list)) + string(list)
}

// number answers the form of a Count.
func number(n int) string {
	w := six.New()
	w.Count(n)
	return w.Bytes()
}

// paperOf answers the paper of a filter with these bytes.
func paperOf(hashes int, bytes string) *paper {
	p := &paper{hashes: hashes}
	for _, b := range []byte(bytes) {
		for range 8 {
			p.marks = append(p.marks, b%2 == 1)
			b /= 2
		}
	}
	return p
}

// wantAlike holds all that a filter tells against its paper, also behind each Has of these keys.
func wantAlike(t *testing.T, name string, f *bloom.Filter, p *paper, keys ...string) {
	t.Helper()
	if f == nil {
		t.Fatalf("%s: there is no filter", name)
	}
	pack, ones := p.pack(), p.ones()
	told := func(when string) {
		t.Helper()
		if b, o, h := f.Shape(); b != len(p.marks) || o != ones || h != p.hashes {
			t.Fatalf("%s%s: Shape() = %d, %d, %d; want %d, %d, %d", name, when, b, o, h, len(p.marks), ones, p.hashes)
		}
		if got := f.Pack(); got != pack {
			t.Fatalf("%s%s: Pack() = %x; want %x", name, when, got, pack)
		}
	}
	told("")
	for _, key := range keys {
		if got, want := f.Has(key), p.has(key); got != want {
			t.Fatalf("%s: Has(%q) = %t; want %t", name, key, got, want)
		}
		told(" behind Has(" + strconv.Quote(key) + ")")
	}
}

// dice are numbers that look like no others, the same ones in each run.
type dice uint64

// roll answers a number from 0 on, below n.
func (x *dice) roll(n int) int {
	*x = *x*6364136223846793005 + 1442695040888963407
	return int(uint64(*x)>>33) % n
}

// text answers so many bytes.
func (x *dice) text(size int) string {
	list := make([]byte, size)
	for i := range list {
		list[i] = byte(x.roll(256))
	}
	return string(list)
}

// mostly answers so many bytes, of whose bits most are 1.
func (x *dice) mostly(size int) string {
	list := []byte(x.text(size))
	for i := range list {
		list[i] |= byte(x.roll(256)) | byte(x.roll(256))
	}
	return string(list)
}

// keys answers so many keys, now and then an equal one, an empty one or a long one.
func (x *dice) keys(n int) []string {
	var list []string
	for range n {
		switch x.roll(10) {
		case 0:
			list = append(list, x.text(x.roll(200)))
		case 1:
			if len(list) > 0 {
				list = append(list, list[x.roll(len(list))])
				continue
			}
			list = append(list, "")
		default:
			list = append(list, x.text(x.roll(4)))
		}
	}
	return list
}

// P7.1 to P7.3: filters of any keys, with any bits for each, held against the other working-out.
func TestAgainstPaper(t *testing.T) {
	has, hasnt := 0, 0
	for seed := range 1500 {
		roll := dice(seed)
		per := 1 + roll.roll(32)
		keys, others := roll.keys(roll.roll(60)), roll.keys(30)
		f, e := bloom.Make(per, keys...)
		if e != api.OK {
			t.Fatalf("seed %d: Make = %d", seed, e)
		}
		p := newPaper(per, keys...)
		name := "seed " + strconv.Itoa(seed)
		wantAlike(t, name, f, p, slices.Concat(keys, others, []string{""})...)
		for _, key := range others {
			if slices.Contains(keys, key) {
				continue
			}
			if p.has(key) {
				has++
			} else {
				hasnt++
			}
		}
		g, e := bloom.Open(f.Pack())
		if e != api.OK {
			t.Fatalf("%s: Open of its Pack = %d", name, e)
		}
		wantAlike(t, name+", opened", g, p, slices.Concat(keys, others, []string{""})...)
	}
	// Both kinds of other keys were met: such as have their bits from others, and such as haven't.
	if has < 300 || hasnt < 300 {
		t.Errorf("of the other keys %d were told to be there, %d not", has, hasnt)
	}
}

// P7.2, P7.3: filters of any bits, also such as no keys make, held against the other working-out.
func TestOpenedAgainstPaper(t *testing.T) {
	for seed := range 40 {
		roll := dice(seed)
		for hashes := 1; hashes <= 8; hashes++ {
			// Of random bits a key's would hardly ever be all 1.
			bytes := roll.mostly(8 * (1 + roll.roll(12)))
			s := number(hashes) + number(len(bytes)) + bytes
			f, e := bloom.Open(s)
			if e != api.OK || f.Pack() != s {
				t.Fatalf("Open(%x) = %d; Pack() = %x", s, e, f.Pack())
			}
			wantAlike(t, strconv.Quote(s), f, paperOf(hashes, bytes), append(roll.keys(40), "")...)
		}
	}
}

// P7.5: what Open takes has one form: the Pack of what it gives is what was handed in.
func TestOpenTakesOneForm(t *testing.T) {
	taken, refused := 0, 0
	for seed := range 20000 {
		roll := dice(seed)
		p := newPaper(1+roll.roll(32), roll.keys(roll.roll(20))...)
		s := []byte(p.pack())
		for range 1 + roll.roll(2) {
			switch at := roll.roll(len(s)); roll.roll(4) {
			case 0:
				s[min(at, 2)] = byte(roll.roll(256))
			case 1:
				s[at] = byte(roll.roll(256))
			case 2:
				s = slices.Delete(s, at, at+1)
			case 3:
				s = slices.Insert(s, at, byte(roll.roll(256)))
			}
		}
		f, e := bloom.Open(string(s))
		if (f == nil) != (e != api.OK) {
			t.Fatalf("Open(%x) = %v, %d", s, f, e)
		}
		if e != api.OK {
			refused++
			continue
		}
		taken++
		if f.Pack() != string(s) {
			t.Fatalf("Open(%x): Pack() = %x", s, f.Pack())
		}
	}
	if taken < 1000 || refused < 1000 {
		t.Errorf("%d were taken, %d refused", taken, refused)
	}
}
