package sketch_test

import (
	"bytes"
	"fmt"
	"math"
	"slices"
	"strings"
	"testing"

	"silo/api"
	"silo/sketch"
)

// most is the greatest number that a row can have.
const most = math.MaxUint32

// nothing is the sketch of no bytes.
var nothing = sketch.Sketch{most, most, most, most, most, most, most, most}

// asked is a sketch whose numbers are all unlike.
var asked = sketch.Sketch{10, 20, 30, 40, 50, 60, 70, 80}

// seeds answers seeds of all kinds: none, some, some below 0, and those at which a number of 32 or of 64 bits goes over.
func seeds() []int {
	return []int{
		0, 1, 2, 7, 8, -1, -2, -7, -8, -9, 40503, 123456789, -987654321, 1<<31 - 8, 1<<31 - 1, 1 << 31, 1<<32 - 8, 1<<32 - 7, 1<<32 - 1, 1 << 32, 1<<32 + 1,
		-1 << 31, -1 << 32, -1<<32 - 1, 123456789012345, math.MaxInt, math.MaxInt - 3, math.MaxInt - 8, math.MinInt, math.MinInt + 5,
	}
}

// sample answers bytes of no plain order.
func sample(n int) []byte {
	data := make([]byte, n)
	for i := range data {
		data[i] = byte(i*i*i/11 + i*5)
	}
	return data
}

// key answers a key whose first byte is this, the others being 0.
func key(n byte) api.Key { return api.Key{n} }

// keys answers several of these.
func keys(list ...byte) []api.Key {
	var all []api.Key
	for _, n := range list {
		all = append(all, key(n))
	}
	return all
}

// alike answers a sketch that is like asked in the rows whose bits are 1, and in no other.
func alike(mask int) sketch.Sketch {
	s := asked
	for r := range s {
		if mask>>r&1 == 0 {
			s[r] += 5
		}
	}
	return s
}

// told tells keys in few letters.
func told(list []api.Key) string {
	var parts []string
	for _, k := range list {
		parts = append(parts, strings.TrimRight(fmt.Sprintf("%x", k), "0")+".")
	}
	return "[" + strings.Join(parts, " ") + "]"
}

// wantNear wants just these chunks, in this order.
func wantNear(t *testing.T, name string, b *sketch.Book, s sketch.Sketch, least int, want ...api.Key) {
	t.Helper()
	if got := b.Near(s, least); !slices.Equal(got, want) {
		t.Errorf("%s: Near(%v, %d) = %s; want %s", name, s, least, told(got), told(want))
	}
}

// wantLen wants a book to have so many chunks.
func wantLen(t *testing.T, name string, b *sketch.Book, want int) {
	t.Helper()
	if n := b.Len(); n != want {
		t.Errorf("%s: Len = %d; want %d", name, n, want)
	}
}

// The chapter's example.
func TestExample(t *testing.T) {
	if s := sketch.Of(nil, 0); s != nothing {
		t.Errorf("Of no bytes = %x", s)
	}
	for _, seed := range seeds() {
		if a, b := sketch.Of([]byte("abcabcabcab"), seed), sketch.Of([]byte("cabcabcabcabcabcabc"), seed); a != b {
			t.Errorf("with the seed %d: %x and %x, though the windows are the same ones", seed, a, b)
		}
	}
}

// P18.1: numbers that were worked out by another program.
func TestOfNumbers(t *testing.T) {
	all := make([]byte, 256)
	for i := range all {
		all[i] = byte(i)
	}
	for _, x := range []struct {
		data string
		seed int
		want sketch.Sketch
	}{
		{"a", 0, sketch.Sketch{0xf304fa1b, 0x2b3a0816, 0xbd506879, 0xf48daf84, 0xde71f1f5, 0x86d20ba0, 0xea9c4f44, 0xe86ad0f6}},
		{"a", 1, sketch.Sketch{0x63bed80a, 0x3e63a4da, 0x40f6fa78, 0x57ac02e2, 0xcb6740af, 0x77c08089, 0x40e5c5aa, 0x98438802}},
		{"\x00", 0, sketch.Sketch{0x00000000, 0xb1124b33, 0x4e3f4239, 0xd787b09f, 0x4ce57537, 0xae5e1a3f, 0xfbf3dbc6, 0x359ef6e2}},
		{"abcdefg", 0, sketch.Sketch{0xf226b3b2, 0xe5c4cedb, 0x179552d0, 0x940747f3, 0xa58bcc75, 0xcf1f70c8, 0xdd2a9e48, 0x162226e7}},
		{"abcdefgh", 0, sketch.Sketch{0x600803f5, 0x4a8c1670, 0x5956fa7e, 0xe0feeba9, 0x2116b415, 0x28378722, 0x5cdb2501, 0x407efec7}},
		{"abcdefgh", -1, sketch.Sketch{0xe727b091, 0x201a0b98, 0x7c3f7dd0, 0xb044f9ad, 0xfcb431d2, 0x7dc640a5, 0x46cd2cc0, 0xb9e8c701}},
		{"abcdefghi", 0, sketch.Sketch{0x600803f5, 0x4a8c1670, 0x5956fa7e, 0x175563a5, 0x2116b415, 0x28378722, 0x5cdb2501, 0x407efec7}},
		{"abcdefghi", 5, sketch.Sketch{0x52db3338, 0x8b943300, 0x157f5597, 0x80c527c4, 0xdcaa653c, 0x3f5067ae, 0x440ee389, 0x51e2608d}},
		{strings.Repeat("\x00", 20), 7, sketch.Sketch{0x9d2d8f68, 0x8898599a, 0x601fa805, 0x23bf5494, 0xd379ed45, 0x6f4bd10a, 0xf736b1f1, 0x6b3dedc4}},
		{strings.Repeat("\xff", 8), -3, sketch.Sketch{0xd84a5924, 0xef1affe8, 0xe3e34fa0, 0x1fccaad1, 0x65ce6f8a, 0xe89d52eb, 0x042529a3, 0x53ad9906}},
		{string(all), math.MaxInt, sketch.Sketch{0x00502975, 0x078df5cf, 0x0285e68c, 0x01e24a52, 0x02af87f6, 0x006b1366, 0x0021c330, 0x00afbc5d}},
		{string(all), math.MinInt, sketch.Sketch{0x02921950, 0x009ae53c, 0x0141af71, 0x007f0d89, 0x026b95ef, 0x00fe38f1, 0x014194f5, 0x00bf1f15}},
		{
			"many bytes, one behind the other, and some of them again and again and again", 123456789012,
			sketch.Sketch{0x04539a11, 0x01f22fd9, 0x04187f7d, 0x094f3810, 0x016b6b38, 0x03de7ab4, 0x05a7a725, 0x001570b4},
		},
	} {
		if got := sketch.Of([]byte(x.data), x.seed); got != x.want {
			t.Errorf("Of(%.20q, %d) = %x; want %x", x.data, x.seed, got, x.want)
		}
	}
}

// P18.1: no bytes have no window, whatever the seed; nil and an empty list are one.
func TestOfNothing(t *testing.T) {
	for _, seed := range seeds() {
		for _, none := range [][]byte{nil, {}, make([]byte, 0, 20), []byte("abcdefghi")[4:4]} {
			if s := sketch.Of(none, seed); s != nothing {
				t.Errorf("Of no bytes with the seed %d = %x", seed, s)
			}
		}
	}
}

// P18.1: fewer than eight bytes are one window, not several: no end of them is one too.
func TestOfFew(t *testing.T) {
	text := []byte("abcdefg")
	for n := 1; n < 8; n++ {
		s := sketch.Of(text[:n], 3)
		for shorter := 1; shorter < n; shorter++ {
			if got := sketch.Alike(s, sketch.Of(text[:shorter], 3)); got != 0 {
				t.Errorf("the sketches of %d bytes and of their first %d are alike in %d rows", n, shorter, got)
			}
			if got := sketch.Alike(s, sketch.Of(text[n-shorter:n], 3)); got != 0 {
				t.Errorf("the sketches of %d bytes and of their last %d are alike in %d rows", n, shorter, got)
			}
		}
	}
}

// P18.1: bytes of 0 at the beginning of the one window count nothing in its sum; behind another one they do.
func TestOfZeros(t *testing.T) {
	for n := range 8 {
		one := append(make([]byte, n), 'a')
		if sketch.Of(one, 0) != sketch.Of([]byte("a"), 0) {
			t.Errorf("%d bytes of 0 ahead of an a change the sketch", n)
		}
	}
	if sketch.Of([]byte("a\x00"), 0) == sketch.Of([]byte("a"), 0) {
		t.Errorf("a byte of 0 behind an a doesn't change the sketch")
	}
	if sketch.Of([]byte("\x00\x00\x00\x00\x00\x00\x00\x00a"), 0) == sketch.Of([]byte("a"), 0) {
		t.Errorf("eight bytes of 0 ahead of an a have a window of their own")
	}
}

// P18.1: seeds that differ by 2^32 are one; those that differ by less give other sketches.
func TestOfSeeds(t *testing.T) {
	data := sample(50)
	for _, seed := range seeds() {
		s := sketch.Of(data, seed)
		for _, step := range []int{1 << 32, -1 << 32, 3 << 32, math.MinInt} {
			if sketch.Of(data, seed+step) != s {
				t.Errorf("the seeds %d and %d give unlike sketches", seed, seed+step)
			}
		}
		for _, step := range []int{1, -1, 2, 8, 1 << 16, 1 << 31} {
			if sketch.Of(data, seed+step) == s {
				t.Errorf("the seeds %d and %d give one sketch", seed, seed+step)
			}
		}
	}
}

// P18.1: texts that come round and round have all windows in common, wherever they begin and however often they come round.
func TestOfSameWindows(t *testing.T) {
	for size := 1; size <= 30; size++ {
		round := bytes.Repeat(sample(size), 30)
		want := sketch.Of(round, size)
		for begin := range size {
			for _, n := range []int{size + 7, size + 8, 2*size + 7, 10 * size} {
				if got := sketch.Of(round[begin:begin+n], size); got != want {
					t.Fatalf("%d bytes, from %d on, of a round of %d: %x; want %x", n, begin, size, got, want)
				}
			}
		}
	}
}

// P18.1: of bytes that are all one there is one window, from eight bytes on.
func TestOfOneByte(t *testing.T) {
	for b := range 256 {
		list := bytes.Repeat([]byte{byte(b)}, 5000)
		want := sketch.Of(list[:8], b)
		for _, n := range []int{9, 10, 16, 17, 100, 4096, 5000} {
			if got := sketch.Of(list[:n], b); got != want {
				t.Errorf("%d bytes %x: %x; want %x, as of eight", n, b, got, want)
			}
		}
		if b > 0 && sketch.Of(list[:7], b) == want {
			t.Errorf("seven and eight bytes %x have one sketch", b)
		}
	}
}

// lower answers in each row the lesser number.
func lower(a, b sketch.Sketch) sketch.Sketch {
	for r := range a {
		a[r] = min(a[r], b[r])
	}
	return a
}

// P18.1: a text with more windows has in no row a greater number; and where two texts together have all its windows, the lesser one of theirs.
func TestOfMoreWindows(t *testing.T) {
	data := sample(300)
	whole := sketch.Of(data, -4)
	for cut := 8; cut <= len(data); cut++ {
		first, last := sketch.Of(data[:cut], -4), sketch.Of(data[cut-8:], -4)
		for r := range whole {
			if whole[r] > first[r] || whole[r] > last[r] {
				t.Fatalf("row %d: %x of all, %x of the first %d bytes, %x of the others", r, whole[r], first[r], cut, last[r])
			}
		}
		if got := lower(first, last); got != whole {
			t.Fatalf("cut at %d: %x; want %x", cut, got, whole)
		}
	}
}

// P18.1: chunks that have much in common have mostly some rows in common, and others mostly none.
func TestOfLikely(t *testing.T) {
	some, none := 0, 0
	for n := range 100 {
		data := []byte(fmt.Sprint(n*n, " ", n*31, " ", strings.Repeat(fmt.Sprint(n, ", "), 3)))
		for i := range 400 {
			data = append(data, fmt.Sprint((i*i*n+i*7)%1000, ".")...)
		}
		other := slices.Concat(data[:500], []byte("a word"), data[505:])
		if sketch.Alike(sketch.Of(data, 1), sketch.Of(other, 1)) > 0 {
			some++
		}
		if sketch.Alike(sketch.Of(data, 1), sketch.Of(sample(400+n), 1)) == 0 {
			none++
		}
	}
	if some < 95 || none < 95 {
		t.Errorf("of 100 texts %d are found alike with themselves but for a word, and %d unlike others", some, none)
	}
}

// P18.1: the bytes that Of was given are as they were, the room behind them too; and what is written into them later isn't seen.
func TestOfLeavesBytes(t *testing.T) {
	for _, n := range []int{0, 1, 7, 8, 9, 100} {
		room := sample(n + 20)
		was := slices.Clone(room)
		s := sketch.Of(room[:n], 9)
		if !bytes.Equal(room, was) {
			t.Errorf("Of of %d bytes changes what it was given", n)
		}
		kept := s
		clear(room)
		if s != kept || sketch.Of(was[:n], 9) != s {
			t.Errorf("Of of %d bytes isn't the same again", n)
		}
	}
}

// P18.1: in how many rows two sketches have one number: each set of rows, in either order.
func TestAlike(t *testing.T) {
	if sketch.Rows != 8 || len(asked) != 8 {
		t.Fatalf("a sketch has %d rows; want 8", sketch.Rows)
	}
	for mask := range 256 {
		want := strings.Count(fmt.Sprintf("%b", mask), "1")
		s := alike(mask)
		if got := sketch.Alike(asked, s); got != want {
			t.Errorf("Alike(%v, %v) = %d; want %d", asked, s, got, want)
		}
		if got := sketch.Alike(s, asked); got != want {
			t.Errorf("Alike(%v, %v) = %d; want %d", s, asked, got, want)
		}
		if got := sketch.Alike(s, s); got != 8 {
			t.Errorf("Alike of %v with itself = %d", s, got)
		}
	}
}

// P18.1: all 32 bits of a number count; a number that stands in another row doesn't.
func TestAlikeBits(t *testing.T) {
	for r := range sketch.Rows {
		for bit := range 32 {
			s := asked
			s[r] ^= 1 << bit
			if got := sketch.Alike(asked, s); got != 7 {
				t.Errorf("with the bit %d of row %d turned: Alike = %d", bit, r, got)
			}
		}
	}
	turned := asked
	for r := range turned {
		turned[r] = asked[(r+1)%8]
	}
	if got := sketch.Alike(asked, turned); got != 0 {
		t.Errorf("Alike of numbers that stand in other rows = %d", got)
	}
	for _, x := range []struct {
		a, b sketch.Sketch
		want int
	}{
		{sketch.Sketch{}, sketch.Sketch{}, 8}, {nothing, nothing, 8}, {sketch.Sketch{}, nothing, 0}, {nothing, asked, 0}, {sketch.Sketch{7: 1}, sketch.Sketch{}, 7}, {sketch.Sketch{1}, sketch.Sketch{2}, 7},
	} {
		if got := sketch.Alike(x.a, x.b); got != x.want {
			t.Errorf("Alike(%v, %v) = %d; want %d", x.a, x.b, got, x.want)
		}
	}
}

// P18.2: a new book has no chunks; books know nothing of each other.
func TestNew(t *testing.T) {
	a, b := sketch.New(), sketch.New()
	if a == nil || b == nil || a == b {
		t.Fatalf("New = %p, %p", a, b)
	}
	for _, least := range leasts() {
		wantNear(t, "a new book", a, asked, least)
		wantNear(t, "a new book", a, sketch.Sketch{}, least)
		wantNear(t, "a new book", a, nothing, least)
	}
	wantLen(t, "a new book", a, 0)
	a.Add(key(1), asked)
	wantLen(t, "the book that was added to", a, 1)
	wantLen(t, "the other book", b, 0)
	wantNear(t, "the other book", b, asked, 0)
	b.Drop(key(1))
	wantNear(t, "the book that was added to", a, asked, 8, key(1))
}

// leasts answers leasts of all kinds.
func leasts() []int {
	return []int{math.MinInt, -9, -1, 0, 1, 2, 3, 4, 5, 6, 7, 8, 9, 10, 256, 1 << 32, math.MaxInt}
}

// P18.2: chunks that are new, of several sketches and of one.
func TestAdd(t *testing.T) {
	b := sketch.New()
	for n := byte(0); n < 20; n++ {
		b.Add(key(n), alike(int(n)))
		wantLen(t, "Add", b, int(n)+1)
	}
	b.Add(key(20), alike(19))
	wantLen(t, "Add with a sketch that is there", b, 21)
	wantNear(t, "Add", b, alike(19), 8, keys(19, 20)...)
	wantNear(t, "Add", b, alike(0), 8, key(0))
}

// P18.2: a chunk that is there has the new sketch in the place of the one that it had.
func TestAddAgain(t *testing.T) {
	b := sketch.New()
	b.Add(key(1), asked)
	b.Add(key(2), asked)
	b.Add(key(1), asked)
	wantLen(t, "the same sketch again", b, 2)
	wantNear(t, "the same sketch again", b, asked, 1, keys(1, 2)...)
	b.Add(key(1), alike(0))
	wantLen(t, "another sketch", b, 2)
	wantNear(t, "another sketch", b, asked, 1, key(2))
	wantNear(t, "another sketch", b, asked, 0, keys(2, 1)...)
	wantNear(t, "another sketch", b, alike(0), 1, key(1))
	b.Add(key(1), alike(7))
	wantNear(t, "a sketch that has some of the old numbers again", b, asked, 1, keys(2, 1)...)
	wantNear(t, "a sketch that has some of the old numbers again", b, asked, 4, key(2))
	wantNear(t, "a sketch that has some of the old numbers again", b, alike(0), 5, key(1))
	wantNear(t, "a sketch that has some of the old numbers again", b, alike(0), 6)
	wantLen(t, "a sketch that has some of the old numbers again", b, 2)
}

// P18.2: from any set of rows to any other one.
func TestAddAgainEach(t *testing.T) {
	for from := range 256 {
		for to := range 256 {
			b := sketch.New()
			b.Add(key(1), alike(from))
			b.Add(key(1), alike(to))
			ones := strings.Count(fmt.Sprintf("%b", to), "1")
			if got := b.Near(asked, max(ones, 1)); len(got) != min(ones, 1) {
				t.Fatalf("rows %b, then %b: Near = %s", from, to, told(got))
			}
			if got := b.Near(asked, ones+1); len(got) != 0 {
				t.Fatalf("rows %b, then %b: Near of one more row = %s", from, to, told(got))
			}
		}
	}
}

// P18.2: a chunk that is there is out; of one that isn't nothing changes.
func TestDrop(t *testing.T) {
	b := sketch.New()
	b.Drop(key(1))
	wantLen(t, "Drop out of an empty book", b, 0)
	for n := byte(1); n <= 4; n++ {
		b.Add(key(n), asked)
	}
	b.Drop(key(9))
	b.Drop(api.Key{})
	b.Drop(api.Key{1, 31: 1})
	wantLen(t, "Drop of a chunk that isn't there", b, 4)
	wantNear(t, "Drop of a chunk that isn't there", b, asked, 8, keys(1, 2, 3, 4)...)
	b.Drop(key(2))
	wantLen(t, "Drop", b, 3)
	wantNear(t, "Drop", b, asked, 8, keys(1, 3, 4)...)
	wantNear(t, "Drop", b, asked, 0, keys(1, 3, 4)...)
	b.Drop(key(2))
	wantLen(t, "Drop again", b, 3)
	b.Add(key(2), alike(1))
	wantNear(t, "Add behind a Drop", b, asked, 0, keys(1, 3, 4, 2)...)
	wantNear(t, "Add behind a Drop", b, asked, 2, keys(1, 3, 4)...)
	for n := byte(4); n >= 1; n-- {
		b.Drop(key(n))
		wantLen(t, "Drop", b, int(n)-1)
	}
	for _, least := range leasts() {
		wantNear(t, "all dropped", b, asked, least)
		wantNear(t, "all dropped", b, alike(1), least)
	}
	b.Add(key(3), asked)
	wantNear(t, "Add behind all Drops", b, asked, 8, key(3))
}

// steps answers a book whose chunks are alike with asked in 8 rows, in 7, and so on, down to none: three chunks each.
func steps() *sketch.Book {
	b := sketch.New()
	for n := range 9 {
		for _, more := range []byte{200, 100, 0} {
			b.Add(key(more+byte(n)), alike(1<<n-1))
		}
	}
	return b
}

// P18.2: each least; the more alike ones first, then the lesser key.
func TestNear(t *testing.T) {
	b := steps()
	var all []api.Key
	for n := 8; n >= 0; n-- {
		all = append(all, keys(byte(n), byte(n)+100, byte(n)+200)...)
		wantNear(t, "chunks of all kinds", b, asked, n, all...)
	}
	for _, least := range []int{0, -1, -2, -8, -256, math.MinInt, math.MinInt + 1} {
		wantNear(t, "a least below 1", b, asked, least, all...)
	}
	for _, least := range []int{9, 10, 16, 256, 1<<32 + 1, math.MaxInt} {
		wantNear(t, "a least above 8", b, asked, least)
	}
	wantLen(t, "chunks of all kinds", b, 27)
}

// P18.2: with a least below 1 also chunks that are alike in no row are told, behind the others.
func TestNearAll(t *testing.T) {
	b := sketch.New()
	b.Add(key(1), alike(0))
	b.Add(key(9), asked)
	b.Add(key(5), nothing)
	b.Add(key(3), sketch.Sketch{})
	b.Add(key(7), alike(1))
	for _, least := range []int{0, -1, math.MinInt} {
		wantNear(t, "some alike", b, asked, least, keys(9, 7, 1, 3, 5)...)
		wantNear(t, "none alike", b, sketch.Sketch{1, 1, 1, 1, 1, 1, 1, 1}, least, keys(1, 3, 5, 7, 9)...)
	}
	wantNear(t, "some alike", b, asked, 1, keys(9, 7)...)
	wantNear(t, "none alike", b, sketch.Sketch{1, 1, 1, 1, 1, 1, 1, 1}, 1)
	wantNear(t, "the sketch of no bytes", b, nothing, 1, key(5))
	wantNear(t, "the zero sketch", b, sketch.Sketch{}, 1, key(3))
}

// P18.2: each set of rows counts as many rows as it has, whichever they are.
func TestNearRows(t *testing.T) {
	b := sketch.New()
	for mask := range 256 {
		b.Add(key(byte(mask)), alike(mask))
	}
	for least := 0; least <= 9; least++ {
		var want []api.Key
		for ones := 8; ones >= least; ones-- {
			for mask := range 256 {
				if strings.Count(fmt.Sprintf("%b", mask), "1") == ones {
					want = append(want, key(byte(mask)))
				}
			}
		}
		wantNear(t, "all sets of rows", b, asked, least, want...)
	}
}

// P18.2: a number that stands in another row isn't the same.
func TestNearOtherRows(t *testing.T) {
	b := sketch.New()
	b.Add(key(1), sketch.Sketch{80, 10, 20, 30, 40, 50, 60, 70})
	wantNear(t, "the numbers in other rows", b, asked, 1)
	b.Add(key(2), sketch.Sketch{80, 70, 60, 50, 50, 30, 20, 10})
	wantNear(t, "one number in its row", b, asked, 1, key(2))
}

// P18.2: of those that are as alike the lesser key comes first, whichever byte of it is another one, and in whatever order they were added.
func TestNearOrder(t *testing.T) {
	var want []api.Key
	want = append(want, api.Key{})
	for at := 31; at >= 0; at-- {
		for _, n := range []byte{1, 2, 127, 128, 255} {
			k := api.Key{}
			k[at] = n
			want = append(want, k)
		}
	}
	for _, turn := range []int{0, 1, 17, 80, 160} {
		for _, back := range []bool{false, true} {
			list := slices.Concat(want[turn:], want[:turn])
			if back {
				slices.Reverse(list)
			}
			b := sketch.New()
			for _, k := range list {
				b.Add(k, asked)
			}
			for _, least := range []int{-1, 0, 1, 8} {
				wantNear(t, fmt.Sprintf("added from %d on, back %t", turn, back), b, asked, least, want...)
			}
			wantNear(t, "no row alike", b, nothing, 0, want...)
		}
	}
}

// P18.2: who is more alike comes first also where his key is greater.
func TestNearMoreAlike(t *testing.T) {
	b := sketch.New()
	for n := range 9 {
		b.Add(key(byte(n*10)), alike(1<<n-1))
	}
	wantNear(t, "greater keys are more alike", b, asked, 1, keys(80, 70, 60, 50, 40, 30, 20, 10)...)
	b = sketch.New()
	for n := range 9 {
		b.Add(key(byte(200-n*10)), alike(1<<n-1))
	}
	wantNear(t, "lesser keys are more alike", b, asked, 1, keys(120, 130, 140, 150, 160, 170, 180, 190)...)
}

// P18.2: what Near answered may be written over and added to; no later answer shows it, and no earlier answer what is done later.
func TestNearIsNew(t *testing.T) {
	b := steps()
	for _, least := range []int{0, 1, 4, 8} {
		want := slices.Clone(b.Near(asked, least))
		first, second := b.Near(asked, least), b.Near(asked, least)
		clear(first[:cap(first)])
		for range 40 {
			first = append(first, key(77))
		}
		if !slices.Equal(second, want) {
			t.Errorf("least %d: the second answer is %s behind writing into the first one; want %s", least, told(second), told(want))
		}
		wantNear(t, "behind writing into an answer", b, asked, least, want...)
		wantLen(t, "behind writing into an answer", b, 27)
		third := b.Near(asked, least)
		b.Drop(key(8))
		b.Add(key(108), nothing)
		b.Add(key(55), asked)
		if !slices.Equal(third, want) {
			t.Errorf("least %d: the answer is %s behind other calls; want %s", least, told(third), told(want))
		}
		b = steps()
	}
}

// P18.2: Near changes nothing: it answers the same again and again.
func TestNearAgain(t *testing.T) {
	b := steps()
	for _, least := range leasts() {
		want := b.Near(asked, least)
		for range 20 {
			wantNear(t, "again", b, asked, least, want...)
			wantNear(t, "sketches that are not there", b, sketch.Sketch{1, 2, 3, 4, 5, 6, 7, 8}, 1)
		}
	}
	wantLen(t, "behind all Nears", b, 27)
}

// P18.2: of a nil book nothing.
func TestNilBook(t *testing.T) {
	var b *sketch.Book
	for range 2 {
		wantLen(t, "a nil book", b, 0)
		for _, least := range leasts() {
			wantNear(t, "a nil book", b, asked, least)
			wantNear(t, "a nil book", b, sketch.Sketch{}, least)
		}
		b.Add(key(1), asked)
		b.Add(api.Key{}, sketch.Sketch{})
		b.Drop(key(1))
		b.Drop(api.Key{})
	}
}
