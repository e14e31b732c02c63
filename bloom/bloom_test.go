package bloom_test

import (
	"fmt"
	"math"
	"slices"
	"strconv"
	"strings"
	"testing"

	"silo/api"
	"silo/bloom"
	"silo/sha"
)

func fresh(t *testing.T, per int, keys ...string) *bloom.Filter {
	t.Helper()
	f, e := bloom.Make(per, keys...)
	if f == nil || e != api.OK {
		t.Fatalf("Make(%d, %d keys) = %v, %d", per, len(keys), f, e)
	}
	return f
}

func opened(t *testing.T, s string) *bloom.Filter {
	t.Helper()
	f, e := bloom.Open(s)
	if f == nil || e != api.OK {
		t.Fatalf("Open(%x) = %v, %d", s, f, e)
	}
	return f
}

func wantShape(t *testing.T, name string, f *bloom.Filter, bits, ones, hashes int) {
	t.Helper()
	if b, o, h := f.Shape(); b != bits || o != ones || h != hashes {
		t.Errorf("%s: Shape() = %d, %d, %d; want %d, %d, %d", name, b, o, h, bits, ones, hashes)
	}
}

func wantPack(t *testing.T, name string, f *bloom.Filter, want string) {
	t.Helper()
	if got := f.Pack(); got != want {
		t.Errorf("%s: Pack() = %x; want %x", name, got, want)
	}
}

func wantHas(t *testing.T, name string, f *bloom.Filter, want bool, keys ...string) {
	t.Helper()
	for _, key := range keys {
		if f.Has(key) != want {
			t.Errorf("%s: Has(%q) = %t", name, key, !want)
		}
	}
}

// some answers so many keys, none of them equal to another one.
func some(n int) []string {
	list := make([]string, n)
	for i := range list {
		list[i] = "key " + strconv.Itoa(i)
	}
	return list
}

// others are keys of which none is one of some.
func others() []string {
	return []string{"", "a", "abc", "key", "key ", "key -1", "key 0 ", "\x00", "\x00\x00", "\xff\xfe", "\u00e4", strings.Repeat("x", 1000)}
}

// noPers are numbers that are no bits for each key.
func noPers() []int {
	return []int{0, -1, -2, -32, math.MinInt, 33, 34, 64, 1 << 8, 1<<8 + 1, 1 << 32, 1<<32 + 1, math.MaxInt}
}

// The chapter's first example.
func TestExampleSizes(t *testing.T) {
	f := fresh(t, 10)
	wantShape(t, "Make(10)", f, 64, 0, 7)
	wantHas(t, "Make(10)", f, false, others()...)
	wantPack(t, "Make(10)", f, "\x47\x48"+strings.Repeat("\x00", 8))
	f = fresh(t, 10, "a")
	if bits, _, hashes := f.Shape(); bits != 64 || hashes != 7 {
		t.Errorf("Make(10, a): %d bits, %d hashes", bits, hashes)
	}
	f = fresh(t, 10, some(7)...)
	if bits, _, hashes := f.Shape(); bits != 128 || hashes != 7 {
		t.Errorf("Make(10, 7 keys): %d bits, %d hashes", bits, hashes)
	}
}

// The chapter's second example.
func TestExampleBytes(t *testing.T) {
	f := fresh(t, 1, "abc")
	wantShape(t, "Make(1, abc)", f, 64, 1, 1)
	wantHas(t, "Make(1, abc)", f, true, "abc")
	wantPack(t, "Make(1, abc)", f, "\x41\x48\x00\x00\x00\x00\x00\x00\x00\x80")
}

// P7.1: refused bits for each key, of any number of keys: also of too many, the first refusal being the one that is told.
func TestMakeRefusesPer(t *testing.T) {
	many := some(api.MaxKeys + 1)
	for _, per := range noPers() {
		for _, n := range []int{0, 1, 2, 100, api.MaxKeys, api.MaxKeys + 1} {
			if f, e := bloom.Make(per, many[:n]...); f != nil || e != api.ErrArg {
				t.Errorf("Make(%d, %d keys) = %v, %d; want nil, ErrArg", per, n, f, e)
			}
		}
	}
}

// P7.1: too many keys, equal ones too.
func TestMakeRefusesKeys(t *testing.T) {
	for _, n := range []int{api.MaxKeys + 1, api.MaxKeys + 2, 2 * api.MaxKeys, 2*api.MaxKeys + 1} {
		unlike, equal, empty := some(n), slices.Repeat([]string{"a"}, n), make([]string, n)
		for per := 1; per <= 32; per++ {
			for _, keys := range [][]string{unlike, equal, empty} {
				if f, e := bloom.Make(per, keys...); f != nil || e != api.ErrLong {
					t.Errorf("Make(%d, %d keys) = %v, %d; want nil, ErrLong", per, n, f, e)
				}
			}
		}
	}
}

// P7.1, P7.5: just as many keys as may be, unlike ones and equal ones.
func TestMakeOfMaxKeys(t *testing.T) {
	unlike, equal := some(api.MaxKeys), slices.Repeat([]string{"a"}, api.MaxKeys)
	for _, per := range []int{1, 10, 32} {
		f := fresh(t, per, unlike...)
		wantAlike(t, fmt.Sprintf("Make(%d, MaxKeys keys)", per), f, newPaper(per, unlike...), "", "key 65535", "key 65536")
		wantHas(t, "MaxKeys keys", f, true, unlike...)
		if bits, _, _ := f.Shape(); bits != per*65536 {
			t.Errorf("Make(%d, MaxKeys keys): %d bits", per, bits)
		}
		f = fresh(t, per, equal...)
		wantAlike(t, fmt.Sprintf("Make(%d, MaxKeys equal keys)", per), f, newPaper(per, equal...), "", "a", "b")
		wantShape(t, "MaxKeys equal keys", f, per*65536, hashesOf[per], hashesOf[per])
	}
}

// P7.1: bits and hashes, for numbers of keys around those at which the bits come to one more multiple of 64; equal keys are counted each.
func TestShapes(t *testing.T) {
	keys, equal := some(400), slices.Repeat([]string{"same"}, 400)
	for per := 1; per <= 32; per++ {
		counts := []int{0, 1, 2, 3}
		for bits := 64; bits <= 6*64; bits += 64 {
			counts = append(counts, bits/per-1, bits/per, bits/per+1, bits/per+2)
		}
		for _, n := range counts {
			name := fmt.Sprintf("Make(%d, %d keys)", per, n)
			wantAlike(t, name, fresh(t, per, keys[:n]...), newPaper(per, keys[:n]...), "same", "")
			wantAlike(t, name+", all equal", fresh(t, per, equal[:n]...), newPaper(per, equal[:n]...), "same", "")
		}
	}
}

// P7.1: bits that are written out here.
func TestWrittenShapes(t *testing.T) {
	for _, x := range []struct{ per, keys, bits, hashes int }{
		{1, 0, 64, 1}, {1, 1, 64, 1}, {1, 64, 64, 1}, {1, 65, 128, 1}, {1, 128, 128, 1}, {1, 129, 192, 1},
		{2, 32, 64, 1}, {2, 33, 128, 1}, {3, 21, 64, 2}, {3, 22, 128, 2}, {7, 9, 64, 4}, {7, 10, 128, 4},
		{10, 6, 64, 7}, {10, 7, 128, 7}, {10, 12, 128, 7}, {10, 13, 192, 7}, {11, 5, 64, 7}, {11, 6, 128, 7}, {12, 5, 64, 8}, {12, 6, 128, 8},
		{31, 2, 64, 8}, {31, 3, 128, 8}, {32, 0, 64, 8}, {32, 1, 64, 8}, {32, 2, 64, 8}, {32, 3, 128, 8}, {32, 4, 128, 8}, {32, 5, 192, 8},
	} {
		f := fresh(t, x.per, some(x.keys)...)
		if bits, _, hashes := f.Shape(); bits != x.bits || hashes != x.hashes {
			t.Errorf("Make(%d, %d keys): %d bits, %d hashes; want %d, %d", x.per, x.keys, bits, hashes, x.bits, x.hashes)
		}
	}
}

// The bits: those of one key, each of them written into the bytes by hand.
func TestBitsOfOneKey(t *testing.T) {
	for _, key := range append(some(50), others()...) {
		for per := 1; per <= 32; per++ {
			var bytes [8]byte
			for i := range hashesOf[per] {
				n := sha.Word(sha.Sum(key), i) & 63
				bytes[n>>3] |= 1 << (n & 7)
			}
			f := fresh(t, per, key)
			wantPack(t, fmt.Sprintf("Make(%d, %q)", per, key), f, number(hashesOf[per])+"\x48"+string(bytes[:]))
			wantHas(t, fmt.Sprintf("Make(%d, %q)", per, key), f, true, key)
		}
	}
}

// The bits: the order of the keys plays no part.
func TestOrder(t *testing.T) {
	keys := []string{"a", "b", "", "a", "key"}
	want := fresh(t, 10, keys...).Pack()
	var turn func(n int)
	turn = func(n int) {
		if n == len(keys) {
			wantPack(t, fmt.Sprintf("Make(10, %q)", keys), fresh(t, 10, keys...), want)
			return
		}
		for i := n; i < len(keys); i++ {
			keys[n], keys[i] = keys[i], keys[n]
			turn(n + 1)
			keys[n], keys[i] = keys[i], keys[n]
		}
	}
	turn(0)
	many := some(3000)
	want = fresh(t, 10, many...).Pack()
	slices.Reverse(many)
	wantPack(t, "many keys, backwards", fresh(t, 10, many...), want)
}

// P7.1: an equal key counts for the bits that there are, and makes none of them 1.
func TestEqualKeys(t *testing.T) {
	for _, key := range []string{"", "a", "key"} {
		for per := 1; per <= 32; per++ {
			one, two := fresh(t, per, key), fresh(t, per, key, key)
			wantPack(t, "two equal keys, for which 64 bits do", two, one.Pack())
		}
		three := fresh(t, 32, key, key, key)
		wantAlike(t, "three equal keys", three, newPaper(32, key, key, key), key)
		if bits, ones, _ := three.Shape(); bits != 128 || ones > 8 {
			t.Errorf("three equal keys of 32 bits: %d bits, %d ones", bits, ones)
		}
	}
	a, b := fresh(t, 20, "a", "b", "a", "b"), fresh(t, 20, "a", "a", "a", "b")
	wantPack(t, "which of the keys comes twice", a, b.Pack())
}

// P7.2, P7.5: a filter has its keys, whatever they are, and mostly no other ones.
func TestHas(t *testing.T) {
	all := others()
	for i, key := range all {
		f := fresh(t, 32, key)
		wantHas(t, fmt.Sprintf("Make(32, %q)", key), f, true, key)
		for j, other := range all {
			if i != j {
				wantHas(t, fmt.Sprintf("Make(32, %q)", key), f, false, other)
			}
		}
	}
	f := fresh(t, 32, all...)
	wantHas(t, "others", f, true, all...)
	wantHas(t, "others", f, false, "b", "ab", "key 7", "keys", "\x00\x00\x00")
	wantAlike(t, "others", f, newPaper(32, all...), append(some(100), all...)...)
}

// P7.2, P7.5: of many keys each is there; of many others few are.
func TestHasOfMany(t *testing.T) {
	keys := some(4000)
	for per := 1; per <= 32; per++ {
		f, p := fresh(t, per, keys[:2000]...), newPaper(per, keys[:2000]...)
		wantHas(t, fmt.Sprintf("per %d", per), f, true, keys[:2000]...)
		wrong := 0
		for _, key := range keys[2000:] {
			if f.Has(key) != p.has(key) {
				t.Errorf("per %d: Has(%q) = %t", per, key, f.Has(key))
			}
			if f.Has(key) {
				wrong++
			}
		}
		if per >= 10 && wrong > 40 {
			t.Errorf("per %d: of 2000 other keys %d are told to be there", per, wrong)
		}
	}
}

// P7.2: each of a key's bits counts: without any one of them the key isn't there; with just them it is.
func TestEachBitCounts(t *testing.T) {
	for _, key := range append(some(30), "", "abc") {
		for hashes := 1; hashes <= 8; hashes++ {
			p := paperOf(hashes, strings.Repeat("\x00", 24))
			for _, n := range p.places(key) {
				p.marks[n] = true
			}
			name := fmt.Sprintf("the bits of %q alone, %d hashes", key, hashes)
			wantHas(t, name, opened(t, p.pack()), true, key)
			for n := range p.marks {
				p.marks[n] = !p.marks[n]
				wantHas(t, fmt.Sprintf("%s, the bit %d turned", name, n), opened(t, p.pack()), p.marks[n], key)
				p.marks[n] = !p.marks[n]
			}
		}
	}
}

// P7.2, P7.3: Shape and Pack tell the same behind any calls, and so does a Has.
func TestTellingChangesNothing(t *testing.T) {
	keys := some(20)
	f, p := fresh(t, 10, keys...), newPaper(10, keys...)
	wantAlike(t, "20 keys", f, p, slices.Concat(keys, others(), keys)...)
	pack := f.Pack()
	g := fresh(t, 10, others()...)
	h := opened(t, pack)
	g.Has("key 0")
	h.Has("key 0")
	wantAlike(t, "20 keys, behind other filters", f, p, keys...)
	if pack != p.pack() {
		t.Errorf("what Pack had answered became %x", pack)
	}
}

// What is handed to Make stays as it is, spare room included, and isn't kept.
func TestMakeKeepsNothing(t *testing.T) {
	list := append(some(9), "spare", "room")
	was := slices.Clone(list)
	f, p := fresh(t, 10, list[:9]...), newPaper(10, list[:9]...)
	wantAlike(t, "9 keys", f, p, was...)
	if !slices.Equal(list, was) {
		t.Errorf("the keys became %q", list)
	}
	for i := range list {
		list[i] = "another"
	}
	wantAlike(t, "9 keys, their list changed", f, p, append(was, "another")...)
	wantHas(t, "9 keys, their list changed", f, true, was[:9]...)
	wantHas(t, "9 keys, their list changed", f, false, "another", "spare", "room")
}

// P7.1: a list without elements is no keys, be it nil or not.
func TestMakeOfNoKeys(t *testing.T) {
	for per := 1; per <= 32; per++ {
		want := number(hashesOf[per]) + "\x48" + strings.Repeat("\x00", 8)
		for _, keys := range [][]string{nil, {}, make([]string, 0, 5)} {
			f := fresh(t, per, keys...)
			wantShape(t, "no keys", f, 64, 0, hashesOf[per])
			wantPack(t, "no keys", f, want)
			wantHas(t, "no keys", f, false, others()...)
		}
	}
}

// P7.3: the first bit of a byte is its lowest one, the first byte has the first bits.
func TestPackOfEachBit(t *testing.T) {
	seen := map[int]bool{}
	for _, key := range some(1000) {
		n := int(sha.Word(sha.Sum(key), 0) & 63)
		seen[n] = true
		bytes := []byte("\x41\x48\x00\x00\x00\x00\x00\x00\x00\x00")
		bytes[2+n/8] = []byte{1, 2, 4, 8, 16, 32, 64, 128}[n%8]
		f := fresh(t, 1, key)
		wantPack(t, key, f, string(bytes))
		wantShape(t, key, f, 64, 1, 1)
	}
	if len(seen) != 64 {
		t.Errorf("%d of the 64 bits were met", len(seen))
	}
}

// P7.3: Shape counts each bit of what was opened.
func TestShapeOfOpened(t *testing.T) {
	for b := range 256 {
		ones := strings.Count(strconv.FormatInt(int64(b), 2), "1")
		for at := range 16 {
			bytes := make([]byte, 16)
			bytes[at] = byte(b)
			wantShape(t, fmt.Sprintf("byte %d is %02x", at, b), opened(t, "\x45\x50"+string(bytes)), 128, ones, 5)
		}
	}
	wantShape(t, "all ones", opened(t, "\x48\x58"+strings.Repeat("\xff", 24)), 192, 192, 8)
	wantHas(t, "all ones", opened(t, "\x48\x58"+strings.Repeat("\xff", 24)), true, others()...)
	wantHas(t, "all zeros", opened(t, "\x41\x58"+strings.Repeat("\x00", 24)), false, others()...)
}

// piece is a piece of bytes to open, and what is told of it where nothing ahead of it is refused.
type piece struct {
	bytes string
	e     api.Errno
	cut   bool // it ends too early: nothing can stand behind it
}

// heads are hashes, fine and refused.
func heads() []piece {
	list := []piece{
		{"", api.ErrShort, true}, {"\x01", api.ErrShort, true}, {"\x3f\x00", api.ErrShort, true}, {"\x07\x3f\x3f", api.ErrShort, true},
		{"\x80", api.ErrForm, false}, {"\x87", api.ErrForm, false}, {"\x01\x87", api.ErrForm, false}, {"\xbf", api.ErrForm, false}, // below 0
		{"\x00", api.ErrForm, false}, {"\x00\x41", api.ErrForm, false}, {"\x00\x00\x47", api.ErrForm, false}, // not in the one form
		{"\xc0", api.ErrForm, false}, {"\xff", api.ErrForm, false}, {"\x01\xc1", api.ErrForm, false},
		{"\x08" + strings.Repeat("\x00", 9) + "\x41", api.ErrForm, false},
	}
	for n := 1; n <= 8; n++ {
		list = append(list, piece{number(n), api.OK, false})
	}
	for _, n := range []int{0, 9, 10, 16, 63, 64, 65, 1 << 8, 1<<8 + 1, 1<<32 + 7, 1<<60 + 8, math.MaxInt} {
		list = append(list, piece{number(n), api.ErrForm, false})
	}
	return list
}

// bodies are Texts of the bits, fine and refused.
func bodies() []piece {
	eight := "\x01\x02\x04\x08\x10\x20\x40\x80"
	list := []piece{
		{"", api.ErrShort, true}, {"\x01", api.ErrShort, true}, {"\x01\x00", api.ErrShort, true},
		{"\x41", api.ErrShort, true}, {"\x47" + eight[:6], api.ErrShort, true}, {"\x48", api.ErrShort, true}, {"\x48" + eight[:7], api.ErrShort, true},
		{"\x49" + eight, api.ErrShort, true}, {"\x50" + eight + eight[:7], api.ErrShort, true},
		{number(1<<32+8) + eight, api.ErrShort, true}, {number(math.MaxInt) + eight, api.ErrShort, true}, {number(math.MaxInt-7) + eight, api.ErrShort, true},
		{"\x80", api.ErrForm, false}, {"\x88" + eight, api.ErrForm, false}, {"\x00\x48" + eight, api.ErrForm, false},
		{"\xc0" + eight, api.ErrForm, false}, {"\xc8" + eight, api.ErrForm, false}, {"\x01\xff" + eight, api.ErrForm, false},
	}
	for _, n := range []int{0, 1, 2, 3, 4, 5, 6, 7, 9, 10, 12, 15, 17, 20, 23, 25, 60, 63, 65, 68, 4092, 4095, 4097, 4100} {
		list = append(list, piece{number(n) + strings.Repeat("\x55", n), api.ErrForm, false})
	}
	for _, n := range []int{8, 16, 24, 32, 40, 56, 64, 72, 128, 4088, 4096, 4104} {
		list = append(list, piece{number(n) + strings.Repeat("\x55", n), api.OK, false})
	}
	return append(list, piece{"\x48" + eight, api.OK, false})
}

// tails are what may be left behind.
func tails() []piece {
	return []piece{{"", api.OK, false}, {"\x00", api.ErrTail, false}, {"a", api.ErrTail, false}, {"\x40", api.ErrTail, false},
		{"\x41\x48abcdefgh", api.ErrTail, false}, {strings.Repeat("\x00", 8), api.ErrTail, false}}
}

// P7.3: Open of each head with each body and each tail: what is told is the first refusal.
func TestOpenRefuses(t *testing.T) {
	for _, head := range heads() {
		for _, body := range bodies() {
			for _, tail := range tails() {
				s, want := head.bytes, head.e
				if !head.cut {
					s += body.bytes
					if want == api.OK {
						want = body.e
					}
					if !body.cut {
						s += tail.bytes
						if want == api.OK {
							want = tail.e
						}
					}
				}
				f, e := bloom.Open(s)
				if e != want || (f == nil) != (want != api.OK) {
					t.Fatalf("Open(%x) = %v, %d; want %d", s, f, e, want)
				}
				if f != nil {
					wantPack(t, "what Open took", f, s)
				}
			}
		}
	}
}

// P7.3: refusals that are written out here, two at a time where two hold.
func TestOpenRefusesInOrder(t *testing.T) {
	for _, x := range []struct {
		s    string
		want api.Errno
	}{
		{"", api.ErrShort}, {"\x01", api.ErrShort}, {"\xc0", api.ErrForm}, {"\x80", api.ErrForm}, {"\x00\x41\x48abcdefgh", api.ErrForm},
		{"\x40", api.ErrForm}, {"\x49", api.ErrForm}, {"\x41", api.ErrShort}, {"\x48", api.ErrShort}, // the hashes, ahead of a Text that isn't there
		{"\x40\x48abcdefgh", api.ErrForm}, {"\x49\x48abcdefgh", api.ErrForm}, {"\x48\x48abcdefgh", api.OK}, {"\x41\x48abcdefgh", api.OK},
		{"\x49\x48abc", api.ErrForm}, {"\x48\x48abc", api.ErrShort}, {"\x49\x48abcdefghi", api.ErrForm},
		{"\x41\x01", api.ErrShort}, {"\x41\xc0", api.ErrForm}, {"\x41\x80", api.ErrForm}, {"\x41\x00\x48abcdefgh", api.ErrForm},
		{"\x41\x40", api.ErrForm}, {"\x41\x47abcdefg", api.ErrForm}, {"\x41\x49abcdefghi", api.ErrForm},
		{"\x41\x47abcdef", api.ErrShort}, {"\x41\x49abcdefgh", api.ErrShort}, // cut off, ahead of its length
		{"\x41\x40a", api.ErrForm}, {"\x41\x47abcdefgh", api.ErrForm}, {"\x41\x49abcdefghij", api.ErrForm}, // its length, ahead of what is left
		{"\x41\x48abcdefghi", api.ErrTail}, {"\x41\x50abcdefghijklmnop", api.OK}, {"\x41\x50abcdefghijklmnopq", api.ErrTail},
	} {
		if f, e := bloom.Open(x.s); e != x.want || (f == nil) != (e != api.OK) {
			t.Errorf("Open(%x) = %v, %d; want %d", x.s, f, e, x.want)
		}
	}
}

// P7.3: each beginning of a Pack is cut off, and whatever stands behind one is left over.
func TestOpenOfMoreAndLess(t *testing.T) {
	for _, n := range []int{0, 1, 7, 60} {
		s := fresh(t, 10, some(n)...).Pack()
		for at := range len(s) {
			if f, e := bloom.Open(s[:at]); f != nil || e != api.ErrShort {
				t.Errorf("Open of %d of %d bytes = %v, %d; want nil, ErrShort", at, len(s), f, e)
			}
		}
		for b := range 256 {
			if f, e := bloom.Open(s + string([]byte{byte(b)})); f != nil || e != api.ErrTail {
				t.Errorf("Open of a Pack and %02x = %v, %d; want nil, ErrTail", b, f, e)
			}
		}
		if f, e := bloom.Open(s + s); f != nil || e != api.ErrTail {
			t.Errorf("Open of two Packs = %v, %d; want nil, ErrTail", f, e)
		}
	}
}

// P7.5: Open undoes Pack: the filter has the same keys, Shape and Pack.
func TestOpenUndoesPack(t *testing.T) {
	keys := some(600)
	for per := 1; per <= 32; per++ {
		for _, n := range []int{0, 1, 2, 5, 64, 65, 600} {
			f := fresh(t, per, keys[:n]...)
			g := opened(t, f.Pack())
			bits, ones, hashes := f.Shape()
			wantShape(t, "opened", g, bits, ones, hashes)
			wantPack(t, "opened", g, f.Pack())
			wantHas(t, "opened", g, true, keys[:n]...)
			for _, key := range append(keys[n:], others()...) {
				wantHas(t, "opened", g, f.Has(key), key)
			}
			wantPack(t, "opened twice", opened(t, g.Pack()), f.Pack())
		}
	}
}

// P7.3: a filter that has more bits than any Make gives.
func TestOpenOfManyBits(t *testing.T) {
	roll := dice(1)
	bytes := roll.mostly(4*api.MaxKeys + 8)
	s := number(8) + number(len(bytes)) + bytes
	wantAlike(t, "more bits than Make gives", opened(t, s), paperOf(8, bytes), "", "a", "abc")
	f, p := opened(t, s), paperOf(8, bytes)
	for _, key := range some(5000) {
		wantHas(t, "more bits than Make gives", f, p.has(key), key)
	}
}

// P7.4
func TestNilFilter(t *testing.T) {
	var f *bloom.Filter
	for range 2 {
		wantHas(t, "nil", f, false, append(some(3), others()...)...)
		wantShape(t, "nil", f, 0, 0, 0)
		wantPack(t, "nil", f, "")
	}
}
