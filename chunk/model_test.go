package chunk_test

import (
	"bytes"
	"fmt"
	"math/rand/v2"
	"slices"
	"testing"

	"silo/api"
	"silo/chunk"
)

// The other working-out. It takes each sum anew, as the chapter tells it, and looks from each end of a chunk for the next one.

// paperSum answers the sum behind the byte at a place.
func paperSum(data []byte, at int) int {
	sum, power := 0, 1
	for i := at; i >= 0 && i > at-16; i-- {
		sum = (sum + (int(data[i])+1)*power) % (1 << 32)
		power = power * 31 % (1 << 32)
	}
	return sum
}

// paperCut is Cut worked out another way.
func paperCut(c api.Conf, data []byte) []int {
	var list []int
	for begin := 0; begin < len(data); {
		n := paperNext(c, data, begin)
		list = append(list, n)
		begin += n
	}
	return list
}

// paperNext answers how many bytes the chunk has that begins at a place.
func paperNext(c api.Conf, data []byte, begin int) int {
	for n := c.Least; n < c.Most && begin+n <= len(data); n++ {
		if paperSum(data, begin+n-1)%c.Mean == c.Mean-1 {
			return n
		}
	}
	return min(c.Most, len(data)-begin)
}

// ends answers the places at which chunks end, the last one too.
func ends(list []int) []int {
	var places []int
	at := 0
	for _, n := range list {
		at += n
		places = append(places, at)
	}
	return places
}

// P16.3: all texts of up to seven bytes out of three, by several confs.
func TestAllShortTexts(t *testing.T) {
	confs := []api.Conf{conf(1, 1, 3), conf(1, 2, 2), conf(1, 2, 7), conf(1, 3, 5), conf(2, 2, 4), conf(2, 3, 3), conf(1, 7, 7), conf(3, 2, 5), conf(1, 97, 6), conf(2, 65536, 5)}
	for n := range 8 {
		data := make([]byte, n)
		for number := range power(3, n) {
			for i := range data {
				data[i] = "\x00a\xff"[number%3]
				number /= 3
			}
			for _, c := range confs {
				if got, want := cut(t, c, data), paperCut(c, data); !slices.Equal(got, want) {
					t.Fatalf("Cut by %s of %q = %v; want %v", told(c), data, got, want)
				}
			}
		}
	}
}

func power(n, times int) int {
	p := 1
	for range times {
		p *= n
	}
	return p
}

// drawConf answers a conf that may be: narrow ones and wide ones, with Means of all sizes.
func drawConf(r *rand.Rand) api.Conf {
	least := 1 + r.IntN(1<<r.IntN(9))
	most := least + r.IntN(1<<r.IntN(10))
	return conf(least, 1+r.IntN(1<<r.IntN(17)), min(most, api.MaxChunk))
}

// drawBytes answers bytes: of few letters, of all, of one alone, or a text that comes again and again.
func drawBytes(r *rand.Rand, n int) []byte {
	letters := []int{1, 2, 3, 10, 256, 256}[r.IntN(6)]
	shift := r.IntN(256)
	data := make([]byte, n)
	for i := range data {
		data[i] = byte(r.IntN(letters) + shift)
	}
	if again := 1 + r.IntN(100); r.IntN(4) == 0 {
		for i := again; i < n; i++ {
			data[i] = data[i-again]
		}
	}
	return data
}

// drawPieces answers the bytes in pieces, some of them empty.
func drawPieces(r *rand.Rand, data []byte) [][]byte {
	longest := []int{1, 2, 5, 40, 1000, 100000}[r.IntN(6)]
	var list [][]byte
	for len(data) > 0 {
		n := min(r.IntN(longest+1), len(data))
		list = append(list, data[:n])
		data = data[n:]
	}
	return append(list, nil)
}

// P16.3: drawn bytes by drawn confs.
func TestDrawn(t *testing.T) {
	r := rand.New(rand.NewPCG(16, 3))
	for range 4000 {
		c, data := drawConf(r), drawBytes(r, r.IntN(3000))
		wantCut(t, c, data, paperCut(c, data)...)
		if t.Failed() {
			t.Fatalf("by %s, of %d bytes", told(c), len(data))
		}
	}
}

// wantHeld holds chunks against P16.4: each but the last one has from Least to Most bytes, the last one from 1 to Most, and together they are the bytes.
func wantHeld(t *testing.T, c api.Conf, data []byte, chunks [][]byte) {
	t.Helper()
	for i, piece := range chunks {
		least := c.Least
		if i == len(chunks)-1 {
			least = 1
		}
		if len(piece) < least || len(piece) > c.Most {
			t.Errorf("by %s: the chunk %d of %d has %d bytes", told(c), i, len(chunks), len(piece))
		}
	}
	if !bytes.Equal(bytes.Join(chunks, nil), data) {
		t.Errorf("by %s: the chunks together aren't the bytes", told(c))
	}
}

// addAll answers the chunks of bytes that come in pieces, what End answers behind them.
func addAll(k *chunk.Cutter, pieces [][]byte) [][]byte {
	var chunks [][]byte
	for _, piece := range pieces {
		chunks = append(chunks, k.Add(piece)...)
	}
	if last := k.End(); len(last) > 0 {
		chunks = append(chunks, last)
	}
	return chunks
}

// P16.4: in whatever pieces the bytes come, the chunks are the same; one cutter takes several texts, one behind the other.
func TestPieces(t *testing.T) {
	r := rand.New(rand.NewPCG(16, 4))
	for range 600 {
		c := drawConf(r)
		k := cutter(t, c)
		for range 3 {
			data := drawBytes(r, r.IntN(5000))
			whole := parts(t, c, data)
			wantHeld(t, c, data, whole)
			for range 3 {
				got := addAll(k, drawPieces(r, data))
				if !slices.EqualFunc(got, whole, bytes.Equal) {
					t.Fatalf("by %s, of %d bytes in pieces: %v; want %v", told(c), len(data), lengths(got), lengths(whole))
				}
			}
		}
	}
}

// P16.4: each way to cut 12 bytes in pieces.
func TestAllPieces(t *testing.T) {
	data := sample(12)
	for _, c := range []api.Conf{conf(1, 2, 5), conf(2, 3, 4), conf(1, 65536, 5), conf(1, 1, 1), conf(3, 1, 3)} {
		whole := parts(t, c, data)
		wantHeld(t, c, data, whole)
		for marks := range 1 << (len(data) - 1) {
			var pieces [][]byte
			begin := 0
			for i := range data {
				if i == len(data)-1 || marks>>i&1 == 1 {
					pieces = append(pieces, data[begin:i+1])
					begin = i + 1
				}
			}
			if got := addAll(cutter(t, c), pieces); !slices.EqualFunc(got, whole, bytes.Equal) {
				t.Fatalf("by %s in the pieces %q: %q; want %q", told(c), pieces, got, whole)
			}
		}
	}
}

// P16.4: each chunk is answered by the call that brings its last byte, not later.
func TestChunksComeAtOnce(t *testing.T) {
	for _, c := range maybe() {
		data := sample(5000)
		k := cutter(t, c)
		var came []int
		for i, b := range data {
			for _, piece := range k.Add([]byte{b}) {
				came = append(came, i+1)
				if !bytes.Equal(piece, data[i+1-len(piece):i+1]) {
					t.Fatalf("by %s: the chunk behind %d bytes isn't these", told(c), i+1)
				}
			}
		}
		last := k.End()
		if len(last) > 0 {
			came = append(came, len(data))
		}
		if want := ends(paperCut(c, data)); !slices.Equal(came, want) {
			t.Errorf("by %s: ends at %v; want %v", told(c), came, want)
		}
	}
}

// wantAlike holds two texts whose last so many bytes are alike against P16.5, and answers how many ends they have at one distance from there, the end of all aside.
func wantAlike(t *testing.T, c api.Conf, a, b []byte, alike int) int {
	t.Helper()
	one, two := cut(t, c, a), cut(t, c, b)
	from := map[int]int{} // by how far they are from the end: the ends of two
	for j, at := range ends(two) {
		from[len(b)-at] = j
	}
	met := 0
	for i, at := range ends(one) {
		left := len(a) - at
		j, there := from[left]
		if left == 0 || alike-left < 15 || !there {
			continue
		}
		met++
		if !slices.Equal(one[i+1:], two[j+1:]) {
			t.Fatalf("by %s: %d bytes ahead of the end, of which %d are alike, the chunks go on with %v and %v", told(c), left, alike, one[i+1:], two[j+1:])
		}
	}
	return met
}

// P16.5: drawn texts that end alike, and begin with bytes of other kinds and lengths.
func TestAlikeEnds(t *testing.T) {
	r := rand.New(rand.NewPCG(16, 5))
	met, texts := 0, 0
	for range 4000 {
		c := drawConf(r)
		tail := drawBytes(r, r.IntN(2000))
		a, b := append(drawBytes(r, r.IntN(200)), tail...), append(drawBytes(r, r.IntN(200)), tail...)
		n := wantAlike(t, c, a, b, len(tail))
		met += n
		if n > 0 {
			texts++
		}
	}
	if met < 10000 || texts < 1000 {
		t.Errorf("only %d ends of %d texts met", met, texts)
	}
}

// P16.5: an end behind just 15 bytes that are alike, which Most makes: the byte behind it is the first one whose sum has nothing of what isn't alike.
func TestJustAlike(t *testing.T) {
	r := rand.New(rand.NewPCG(16, 6))
	met, differ := 0, map[int]int{}
	for range 20000 {
		head := 1 + r.IntN(3)
		tail := drawBytes(r, 15+r.IntN(60))
		c := conf(1+r.IntN(3), 2+r.IntN(5), 15+head)
		a, b := append(drawBytes(r, head), tail...), append(drawBytes(r, head), tail...)
		met += wantAlike(t, c, a, b, len(tail))
		// Behind fewer bytes the promise says nothing: the chunks may go on otherwise.
		one, two := cut(t, c, a), cut(t, c, b)
		for i, at := range ends(one) {
			if j := slices.Index(ends(two), at); j >= 0 && !slices.Equal(one[i+1:], two[j+1:]) {
				differ[at-head]++
			}
		}
	}
	if met < 10000 {
		t.Errorf("only %d ends met", met)
	}
	for n := 1; n < 15; n++ {
		if differ[n] == 0 {
			t.Errorf("ends behind %d bytes that are alike: the chunks go on alike", n)
		}
	}
	for n := range differ {
		if n >= 15 {
			t.Errorf("ends behind %d bytes that are alike: the chunks go on otherwise", n)
		}
	}
}

// P16.5: a word that is put in, taken out or changed far ahead leaves most chunks as they are.
func TestChangeAhead(t *testing.T) {
	r := rand.New(rand.NewPCG(16, 7))
	c := conf(32, 64, 256)
	for range 100 {
		data := make([]byte, 16000)
		for i := range data {
			data[i] = byte(r.IntN(256))
		}
		other := slices.Concat(data[:100], []byte(fmt.Sprint(r.IntN(1e6))), data[100+r.IntN(9):])
		known := map[string]int{}
		for _, piece := range parts(t, c, data) {
			known[string(piece)] = 1
		}
		all, alike := 0, 0
		for _, piece := range parts(t, c, other) {
			all++
			alike += known[string(piece)]
		}
		if all < 100 || alike < all*9/10 {
			t.Errorf("%d of %d chunks are alike", alike, all)
		}
	}
}
