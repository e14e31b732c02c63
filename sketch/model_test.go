package sketch_test

import (
	"bytes"
	"fmt"
	"math/big"
	"math/rand/v2"
	"slices"
	"sort"
	"strings"
	"testing"

	"silo/api"
	"silo/sketch"
)

// The other working-out. Each window's sum is taken anew, by numbers without an end; a book is a list that is gone through whole.

// wrap is 2^32.
var wrap = big.NewInt(1 << 32)

// paperWindows answers the windows of bytes.
func paperWindows(data []byte) [][]byte {
	if n := len(data); n > 0 && n < 8 {
		return [][]byte{data}
	}
	var list [][]byte
	for end := 8; end <= len(data); end++ {
		list = append(list, data[end-8:end])
	}
	return list
}

// paperSum answers a window's sum.
func paperSum(window []byte) *big.Int {
	sum := new(big.Int)
	for i, b := range window {
		behind := int64(len(window) - 1 - i)
		power := new(big.Int).Exp(big.NewInt(257), big.NewInt(behind), nil)
		sum.Add(sum, power.Mul(power, big.NewInt(int64(b))))
	}
	return sum.Mod(sum, wrap)
}

// paperNumber answers a sum's number in a row.
func paperNumber(sum *big.Int, r, seed int) uint32 {
	turn := new(big.Int).Add(big.NewInt(int64(seed)), big.NewInt(int64(r)))
	turn.Mul(turn, big.NewInt(40503)).Mod(turn, wrap)
	v := new(big.Int).Xor(sum, turn)
	v.Mul(v, big.NewInt(2654435761*int64(2*r+1))).Mod(v, wrap)
	down := new(big.Int).Div(v, big.NewInt(1<<15))
	return uint32(v.Xor(v, down).Uint64())
}

// paperOf is Of worked out another way.
func paperOf(data []byte, seed int) sketch.Sketch {
	s := nothing
	for _, window := range paperWindows(data) {
		sum := paperSum(window)
		for r := range s {
			s[r] = min(s[r], paperNumber(sum, r, seed))
		}
	}
	return s
}

// heldOf holds Of against the other working-out.
func heldOf(t *testing.T, data []byte, seed int) {
	t.Helper()
	if got, want := sketch.Of(data, seed), paperOf(data, seed); got != want {
		t.Fatalf("Of(%d bytes %.40x, %d) = %x; want %x", len(data), data, seed, got, want)
	}
}

// P18.1: each number of bytes up to 40 and some more, for each seed: bytes that are all one, and any others.
func TestOfAllLengths(t *testing.T) {
	for n := range 41 {
		for _, seed := range seeds() {
			heldOf(t, sample(n), seed)
			for _, b := range []byte{0, 1, 'a', 127, 128, 255} {
				heldOf(t, bytes.Repeat([]byte{b}, n), seed)
			}
		}
	}
	for _, n := range []int{63, 64, 65, 255, 256, 257, 1000, 4096, 5000} {
		for _, seed := range []int{0, -1, 12345} {
			heldOf(t, sample(n), seed)
		}
	}
}

// P18.1: all texts of one byte, and all of up to ten out of two.
func TestOfAllShortTexts(t *testing.T) {
	for b := range 256 {
		heldOf(t, []byte{byte(b)}, b-100)
	}
	for n := range 11 {
		data := make([]byte, n)
		for number := range 1 << n {
			for i := range data {
				data[i] = "\x00\xff"[number>>i&1]
			}
			heldOf(t, data, number)
		}
	}
}

// P18.1: one byte of nine is another one, at each place.
func TestOfOtherByte(t *testing.T) {
	for at := range 9 {
		for b := range 256 {
			data := []byte("abcdefghi")
			data[at] = byte(b)
			heldOf(t, data, 3)
		}
	}
}

// drawBytes answers bytes: of few letters, or of all.
func drawBytes(r *rand.Rand, n int) []byte {
	letters := []int{1, 2, 5, 256, 256}[r.IntN(5)]
	shift := r.IntN(256)
	data := make([]byte, n)
	for i := range data {
		data[i] = byte(r.IntN(letters) + shift)
	}
	return data
}

// P18.1: drawn bytes with drawn seeds.
func TestOfDrawn(t *testing.T) {
	r := rand.New(rand.NewPCG(18, 1))
	for range 1500 {
		n := []int{r.IntN(12), r.IntN(100), r.IntN(400)}[r.IntN(3)]
		seed := []int{r.IntN(20) - 10, int(r.Uint32()), int(r.Uint64())}[r.IntN(3)]
		heldOf(t, drawBytes(r, n), seed)
	}
}

// P18.1: drawn texts whose windows are held against each other as texts: where they are the same ones, so are the sketches; where one has all of the other's, it has no greater number.
func TestOfDrawnWindows(t *testing.T) {
	r := rand.New(rand.NewPCG(18, 2))
	same, more := 0, 0
	for range 20000 {
		a := drawBytes(r, r.IntN(30))
		b := slices.Concat(drawBytes(r, r.IntN(3)), a, a[:r.IntN(len(a)+1)])
		if r.IntN(3) == 0 {
			a, b = bytes.Repeat(a, 4), bytes.Repeat(a, 5)
		}
		few, all := windowSet(a), windowSet(b)
		if !within(few, all) {
			continue
		}
		seed := r.IntN(9) - 4
		x, y := sketch.Of(a, seed), sketch.Of(b, seed)
		if lower(x, y) != y {
			t.Fatalf("%q has all windows of %q, and the sketch %x; the other one has %x", b, a, y, x)
		}
		more++
		if !within(all, few) {
			continue
		}
		if x != y {
			t.Fatalf("%q and %q have the same windows, and the sketches %x and %x", a, b, x, y)
		}
		if len(few) > 0 && !bytes.Equal(a, b) {
			same++
		}
	}
	if same < 1000 || more-same < 1000 {
		t.Errorf("%d pairs of the same windows, %d of more: too few", same, more-same)
	}
}

// windowSet answers the windows as texts.
func windowSet(data []byte) map[string]bool {
	set := map[string]bool{}
	for _, window := range paperWindows(data) {
		set[string(window)] = true
	}
	return set
}

// within tells whether all of the one are in the other.
func within(few, all map[string]bool) bool {
	for text := range few {
		if !all[text] {
			return false
		}
	}
	return true
}

// paperChunk is a chunk of a paperBook.
type paperChunk struct {
	key    api.Key
	sketch sketch.Sketch
}

// paperBook is a book worked out another way: the chunks as a list.
type paperBook []paperChunk

func (b *paperBook) drop(k api.Key) {
	*b = slices.DeleteFunc(*b, func(c paperChunk) bool { return c.key == k })
}

func (b *paperBook) add(k api.Key, s sketch.Sketch) {
	b.drop(k)
	*b = append(*b, paperChunk{k, s})
}

// paperAlike is Alike worked out another way.
func paperAlike(a, b sketch.Sketch) int {
	n := 8
	for r := range a {
		n -= min(1, int(a[r]^b[r]))
	}
	return n
}

func (b *paperBook) near(s sketch.Sketch, least int) []api.Key {
	var texts []string
	for _, c := range *b {
		if n := paperAlike(c.sketch, s); n >= least || least < 1 {
			// A text that begins with how many rows aren't alike stands where the chunk does.
			texts = append(texts, string(rune('0'+8-n))+string(c.key[:]))
		}
	}
	sort.Strings(texts)
	var list []api.Key
	for _, text := range texts {
		list = append(list, api.Key([]byte(text[1:])))
	}
	return list
}

// drawKey draws a key: one of few, or any.
func drawKey(r *rand.Rand) api.Key {
	var k api.Key
	switch r.IntN(4) {
	case 0:
		k[31] = byte(r.IntN(30))
	case 1:
		k[0] = byte(r.IntN(30) * 9)
	case 2:
		k[r.IntN(32)] = byte(r.IntN(3) * 127)
	case 3:
		for i := range k {
			k[i] = byte(r.IntN(256))
		}
	}
	return k
}

// drawSketch draws a sketch whose rows have few numbers.
func drawSketch(r *rand.Rand, numbers int) sketch.Sketch {
	var s sketch.Sketch
	for i := range s {
		s[i] = []uint32{0, most, 1, 1 << 31, 1 << 16}[r.IntN(numbers)]
	}
	return s
}

// P18.2: drawn calls in a row; behind each the number of chunks and drawn Nears are held against the list.
func TestDrawnCalls(t *testing.T) {
	r := rand.New(rand.NewPCG(18, 3))
	found := map[int]int{}
	for round := range 120 {
		b, list := sketch.New(), &paperBook{}
		numbers := 1 + r.IntN(5)
		var said []string
		for range 80 {
			k, s := drawKey(r), drawSketch(r, numbers)
			if len(*list) > 0 && r.IntN(3) == 0 {
				k = (*list)[r.IntN(len(*list))].key
			}
			if r.IntN(3) == 0 {
				b.Drop(k)
				list.drop(k)
				said = append(said, fmt.Sprintf("Drop(%x)", k))
			} else {
				b.Add(k, s)
				list.add(k, s)
				said = append(said, fmt.Sprintf("Add(%x, %x)", k, s))
			}
			if b.Len() != len(*list) {
				t.Fatalf("round %d: %s: Len = %d; want %d", round, strings.Join(said, ", "), b.Len(), len(*list))
			}
			least := r.IntN(11) - 1
			ask := drawSketch(r, numbers)
			if got, want := b.Near(ask, least), list.near(ask, least); !slices.Equal(got, want) {
				t.Fatalf("round %d: %s: Near(%x, %d) = %s; want %s", round, strings.Join(said, ", "), ask, least, told(got), told(want))
			} else if len(got) > 0 {
				found[least]++
			}
		}
	}
	for least := -1; least <= 8; least++ {
		if found[least] < 100 {
			t.Errorf("%d drawn Nears with the least %d found something: too few", found[least], least)
		}
	}
}

// P18.2: a book of many chunks, of which many are alike, added, changed and dropped.
func TestManyChunks(t *testing.T) {
	r := rand.New(rand.NewPCG(18, 4))
	b, list := sketch.New(), paperBook{}
	for n := range 3000 {
		k := api.Key{byte(n * 7), byte(n >> 8), byte(n)}
		s := drawSketch(r, 5)
		b.Add(k, s)
		list = append(list, paperChunk{k, s})
	}
	held := func(name string) {
		t.Helper()
		wantLen(t, name, b, len(list))
		for least := -1; least <= 9; least++ {
			ask := drawSketch(r, 5)
			wantNear(t, name, b, ask, least, list.near(ask, least)...)
		}
	}
	held("added")
	for i := range list {
		if i%2 == 0 {
			list[i].sketch = drawSketch(r, 5)
			b.Add(list[i].key, list[i].sketch)
		}
	}
	held("changed")
	for _, c := range list[1000:] {
		b.Drop(c.key)
	}
	list = list[:1000]
	held("dropped")
}

// P18.1, P18.2: sketches of texts in a book: the texts that are like one are found for it.
func TestTextsInBook(t *testing.T) {
	r := rand.New(rand.NewPCG(18, 5))
	b, list := sketch.New(), &paperBook{}
	var texts [][]byte
	for range 50 {
		texts = append(texts, drawBytes(r, 300))
	}
	for n := range 300 {
		data := slices.Clone(texts[n%50])
		data[r.IntN(300)]++
		k := api.Key{byte(n), byte(n >> 8)}
		b.Add(k, sketch.Of(data, -18))
		list.add(k, paperOf(data, -18))
	}
	for _, data := range texts {
		for _, least := range []int{0, 1, 3, 8} {
			s := sketch.Of(data, -18)
			wantNear(t, "texts", b, s, least, list.near(s, least)...)
		}
	}
}
