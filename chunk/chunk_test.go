package chunk_test

import (
	"bytes"
	"fmt"
	"math"
	"slices"
	"strings"
	"testing"

	"silo/api"
	"silo/chunk"
)

// conf answers a conf that cuts so.
func conf(least, mean, most int) api.Conf { return api.Conf{Least: least, Mean: mean, Most: most} }

// maybe answers confs that may be: the ends of each of the three, and some between.
func maybe() []api.Conf {
	return []api.Conf{
		conf(1, 1, 1), conf(1, 1, 9), conf(1, 2, 9), conf(1, 65536, 1), conf(1, 65536, 4096), conf(4096, 1, 4096), conf(4096, 65536, 4096),
		conf(2, 65536, 3), conf(2, 2, 2), conf(3, 3, 30), conf(4, 8, 32), conf(15, 5, 17), conf(16, 7, 16), conf(17, 1, 18), conf(32, 64, 256), conf(1, 65535, 100), conf(1, 3, 4096),
	}
}

// never answers confs that may not be.
func never() []api.Conf {
	return []api.Conf{
		{}, conf(0, 1, 1), conf(-1, 1, 1), conf(math.MinInt, 1, 9), conf(math.MaxInt, 1, 9), conf(math.MaxInt, 1, math.MaxInt),
		conf(1, 0, 1), conf(1, -1, 1), conf(1, 65537, 1), conf(1, math.MinInt, 9), conf(1, math.MaxInt, 9), conf(1, 1<<32, 9), conf(1, 1<<32+1, 9),
		conf(1, 1, 0), conf(2, 1, 1), conf(3, 1, 2), conf(4096, 1, 4095), conf(1, 1, -1), conf(1, 1, math.MinInt),
		conf(1, 1, 4097), conf(4097, 1, 4097), conf(4096, 1, 4097), conf(1, 1, math.MaxInt), conf(0, 0, 0), conf(0, 1, 0), conf(-5, 1, -4),
	}
}

// cutter answers a new cutter.
func cutter(t *testing.T, c api.Conf) *chunk.Cutter {
	t.Helper()
	k, e := chunk.New(c)
	if e != api.OK || k == nil {
		t.Fatalf("New of %s = %v, %d", told(c), k, e)
	}
	return k
}

// told tells how a conf cuts.
func told(c api.Conf) string { return fmt.Sprintf("%d-%d-%d", c.Least, c.Mean, c.Most) }

// text tells chunks as a text, a bar behind each.
func text(chunks ...[]byte) string {
	var s strings.Builder
	for _, c := range chunks {
		fmt.Fprintf(&s, "%s|", c)
	}
	return s.String()
}

// lengths answers how many bytes each of the chunks has.
func lengths(chunks [][]byte) []int {
	var list []int
	for _, c := range chunks {
		list = append(list, len(c))
	}
	return list
}

// parts answers what Parts gives, and holds each chunk's place against the chunks ahead of it.
func parts(t *testing.T, c api.Conf, data []byte) [][]byte {
	t.Helper()
	var chunks [][]byte
	begin := 0
	for at, piece := range chunk.Parts(c, data) {
		if at != begin {
			t.Errorf("Parts by %s: the chunk %d begins at %d; want %d", told(c), len(chunks), at, begin)
		}
		chunks = append(chunks, piece)
		begin += len(piece)
	}
	return chunks
}

// cut answers what Cut gives.
func cut(t *testing.T, c api.Conf, data []byte) []int {
	t.Helper()
	list, e := chunk.Cut(c, data)
	if e != api.OK {
		t.Errorf("Cut by %s = %d", told(c), e)
	}
	return list
}

// wantCut holds Cut, Parts and a cutter against the lengths of the chunks.
func wantCut(t *testing.T, c api.Conf, data []byte, want ...int) {
	t.Helper()
	if got := cut(t, c, data); !slices.Equal(got, want) {
		t.Errorf("Cut by %s of %d bytes = %v; want %v", told(c), len(data), got, want)
	}
	var pieces [][]byte
	begin := 0
	for _, n := range want {
		pieces = append(pieces, data[begin:begin+n])
		begin += n
	}
	if got := parts(t, c, data); !slices.EqualFunc(got, pieces, bytes.Equal) {
		t.Errorf("Parts by %s of %d bytes: chunks of %v; want %v", told(c), len(data), lengths(got), want)
	}
	k := cutter(t, c)
	got := k.Add(data)
	if last := k.End(); len(last) > 0 {
		got = append(got, last)
	}
	if !slices.EqualFunc(got, pieces, bytes.Equal) {
		t.Errorf("Add and End by %s of %d bytes: chunks of %v; want %v", told(c), len(data), lengths(got), want)
	}
}

// The chapter's example.
func TestExample(t *testing.T) {
	wantCut(t, conf(1, 1, 9), []byte("each byte is a chunk"), slices.Repeat([]int{1}, 20)...)
	wantCut(t, conf(2, 65536, 3), []byte("chunks of 3 bytes"), 3, 3, 3, 3, 3, 2)
}

// P16.1: both ends of Least, Mean and Most.
func TestCheck(t *testing.T) {
	for _, c := range maybe() {
		if e := chunk.Check(c); e != api.OK {
			t.Errorf("Check of %s = %d", told(c), e)
		}
	}
	for _, c := range never() {
		if e := chunk.Check(c); e != api.ErrArg {
			t.Errorf("Check of %s = %d", told(c), e)
		}
	}
}

// P16.1: each of the three alone, from below its one end to above the other.
func TestCheckOfEach(t *testing.T) {
	for n := -2; n <= 70000; n++ {
		for _, x := range []struct {
			c    api.Conf
			good bool
		}{
			{conf(n, 1, 4096), n >= 1 && n <= 4096},
			{conf(n, 1, 7), n >= 1 && n <= 7},
			{conf(1, n, 1), n >= 1 && n <= 65536},
			{conf(1, 1, n), n >= 1 && n <= 4096},
			{conf(7, 1, n), n >= 7 && n <= 4096},
			{conf(n, 1, n), n >= 1 && n <= 4096},
		} {
			if e := chunk.Check(x.c); (e == api.OK) != x.good || !x.good && e != api.ErrArg {
				t.Fatalf("Check of %s = %d", told(x.c), e)
			}
		}
	}
}

// P16.1: the conf's other fields don't count, neither for Check nor for where chunks end.
func TestOtherFields(t *testing.T) {
	data := sample(500)
	for _, n := range []int{0, 1, -1, 1 << 20, math.MinInt, math.MaxInt} {
		for _, c := range append(maybe(), never()...) {
			other := c
			other.Hot, other.Cold, other.Fan, other.Each, other.Per, other.Table, other.Flush, other.Box, other.Seed = n, n, n, n, n, n, n, n, n
			want := chunk.Check(c)
			if e := chunk.Check(other); e != want {
				t.Errorf("Check of %s with %d = %d; want %d", told(c), n, e, want)
			}
			one, e := chunk.Cut(c, data)
			two, f := chunk.Cut(other, data)
			if e != want || f != want || !slices.Equal(one, two) {
				t.Errorf("Cut by %s with %d = %v, %d; want %v, %d", told(c), n, two, f, one, e)
			}
		}
	}
}

// sample answers bytes that have ends of chunks here and there.
func sample(n int) []byte {
	data := make([]byte, n)
	for i := range data {
		data[i] = byte(i * i / 7)
	}
	return data
}

// P16.1: New answers Check's error and no cutter, or a cutter to which no bytes came.
func TestNew(t *testing.T) {
	for _, c := range never() {
		if k, e := chunk.New(c); k != nil || e != api.ErrArg {
			t.Errorf("New of %s = %v, %d", told(c), k, e)
		}
	}
	for _, c := range maybe() {
		if last := cutter(t, c).End(); len(last) != 0 {
			t.Errorf("End of a new cutter by %s = %q", told(c), last)
		}
		if list := cutter(t, c).Add(nil); len(list) != 0 {
			t.Errorf("Add of no bytes to a new cutter by %s = %q", told(c), list)
		}
	}
}

// P16.1: cutters know nothing of each other.
func TestTwoCutters(t *testing.T) {
	a, b := cutter(t, conf(1, 65536, 4)), cutter(t, conf(1, 65536, 3))
	var got [2]string
	for _, s := range []string{"ab", "cd", "ef", "gh"} {
		got[0] += text(a.Add([]byte(s))...)
		got[1] += text(b.Add([]byte(strings.ToUpper(s)))...)
	}
	if got[0] != "abcd|efgh|" || got[1] != "ABC|DEF|" {
		t.Errorf("the cutters ended %q", got)
	}
	if x, y := text(a.End()), text(b.End()); x != "|" || y != "GH|" {
		t.Errorf("the cutters had left %q and %q", x, y)
	}
}

// P16.2: pieces of no bytes, of one, of several, of more than any chunk has; what each ends, and what is left.
func TestAdd(t *testing.T) {
	k := cutter(t, conf(2, 65536, 4))
	for _, step := range []struct{ piece, want string }{
		{"", ""}, {"a", ""}, {"", ""}, {"b", ""}, {"c", ""}, {"d", "abcd|"}, {"", ""}, {"efgh", "efgh|"}, {"ijk", ""}, {"lm", "ijkl|"},
		{"nopqrstuvwxyz", "mnop|qrst|uvwx|"}, {"", ""}, {"01", "yz01|"}, {"23456789", "2345|6789|"}, {"ABCDE", "ABCD|"},
	} {
		if got := text(k.Add([]byte(step.piece))...); got != step.want {
			t.Errorf("Add(%q) = %s; want %s", step.piece, got, step.want)
		}
	}
	if got := text(k.End()); got != "E|" {
		t.Errorf("End = %s", got)
	}
}

// P16.2: nil and an empty list are one.
func TestAddOfNothing(t *testing.T) {
	k := cutter(t, conf(1, 1, 9))
	for _, none := range [][]byte{nil, {}, make([]byte, 0, 9)} {
		if got := k.Add(none); len(got) != 0 {
			t.Errorf("Add(%#v) = %q", none, got)
		}
		if got := cut(t, conf(1, 1, 9), none); len(got) != 0 {
			t.Errorf("Cut(%#v) = %v", none, got)
		}
		if got := parts(t, conf(1, 1, 9), none); len(got) != 0 {
			t.Errorf("Parts(%#v) = %q", none, got)
		}
	}
	if last := k.End(); len(last) != 0 {
		t.Errorf("End = %q", last)
	}
}

// P16.2: one call brings more bytes than any chunk has, in a cutter that has some left.
func TestAddOfMany(t *testing.T) {
	data := sample(100000)
	for _, c := range []api.Conf{conf(4096, 65536, 4096), conf(4000, 65536, 4096), conf(1, 65536, 4096)} {
		for _, first := range []int{0, 1, 4095, 4096, 4097} {
			k := cutter(t, c)
			got := slices.Concat(k.Add(data[:first]), k.Add(data[first:]))
			if !slices.Equal(append(lengths(got), len(k.End())), cut(t, c, data)) {
				t.Errorf("%d bytes and the others by %s: chunks of %v", first, told(c), lengths(got))
			}
		}
	}
	wantCut(t, conf(4096, 65536, 4096), data[:3*4096+1], 4096, 4096, 4096, 1)
}

// P16.2: of a nil cutter nothing.
func TestNilCutter(t *testing.T) {
	var k *chunk.Cutter
	for _, data := range [][]byte{nil, {}, []byte("a"), sample(9000)} {
		if got := k.Add(data); len(got) != 0 {
			t.Errorf("Add of %d bytes to no cutter = %q", len(data), got)
		}
		if got := k.End(); len(got) != 0 {
			t.Errorf("End of no cutter = %q", got)
		}
	}
}

// P16.2: End where nothing is left, behind a chunk that ended just there; and End twice.
func TestEnd(t *testing.T) {
	k := cutter(t, conf(1, 65536, 3))
	k.Add([]byte("abc"))
	if last := k.End(); len(last) != 0 {
		t.Errorf("End behind a whole chunk = %q", last)
	}
	k.Add([]byte("de"))
	if last := k.End(); string(last) != "de" {
		t.Errorf("End = %q; want de", last)
	}
	for range 2 {
		if last := k.End(); len(last) != 0 {
			t.Errorf("End once more = %q", last)
		}
	}
}

// P16.2: what was left counts neither among the bytes nor for the length of the next chunk.
func TestGoOnBehindEnd(t *testing.T) {
	k := cutter(t, conf(2, 65536, 4))
	k.Add([]byte("abc"))
	k.End()
	if got := text(k.Add([]byte("defghi"))...); got != "defg|" {
		t.Errorf("behind End: %s", got)
	}
	if got := text(k.End()); got != "hi|" {
		t.Errorf("End = %s", got)
	}
}

// P16.2: behind End the window is as empty as a new cutter's: each text is cut as if it were the first one.
func TestWindowBehindEnd(t *testing.T) {
	// The sum behind a is 98, the sum behind ba is 99 times 31 more.
	c := conf(1, 99, 9)
	k := cutter(t, c)
	for _, first := range []string{"", "b", "a", "bbb", "bbbbbbbbb", "bbbbbbbbbbbbbbbbbbbb", "\x00\x01\xff"} {
		k.Add([]byte(first))
		k.End()
		if got := text(k.Add([]byte("ab"))...); got != "a|" {
			t.Errorf("behind %q and End: %s", first, got)
		}
		if got := text(k.End()); got != "b|" {
			t.Errorf("behind %q, End and a: %s", first, got)
		}
	}
	for _, c := range maybe() {
		k := cutter(t, c)
		for n := range 40 {
			k.Add(sample(300)[:n])
			k.End()
			got := lengths(k.Add(sample(400)[n:]))
			if last := k.End(); len(last) > 0 {
				got = append(got, len(last))
			}
			if want := cut(t, c, sample(400)[n:]); !slices.Equal(got, want) {
				t.Errorf("by %s behind %d bytes and End: %v; want %v", told(c), n, got, want)
			}
		}
	}
}

// wantSum holds where a chunk ends against the sum behind the last one of the bytes: where they are Least, a chunk ends there by those Means that say so, and by no other.
func wantSum(t *testing.T, data []byte, sum int) {
	t.Helper()
	n := len(data)
	more := append(bytes.Clone(data), 'x')
	for mean := 1; mean <= 65536; mean++ {
		want := []int{n + 1}
		if sum%mean == mean-1 {
			want = []int{n, 1}
		}
		if got := cut(t, conf(n, mean, n+1), more); !slices.Equal(got, want) {
			t.Fatalf("the sum behind %q isn't %d: by %d it is cut into %v", data, sum, mean, got)
		}
	}
}

// The sum behind a byte, worked out by hand for one byte, two and three, and for seven and eight, where it goes over 2^32.
func TestSum(t *testing.T) {
	wantSum(t, []byte("a"), 98)
	wantSum(t, []byte{0}, 1)
	wantSum(t, []byte{0xff}, 256)
	wantSum(t, []byte("ab"), 98*31+99)
	wantSum(t, []byte("ba"), 99*31+98)
	wantSum(t, []byte("abc"), 98*961+99*31+100)
	wantSum(t, []byte{0, 0, 0, 0, 0, 0, 0}, 917087137)
	wantSum(t, []byte{0, 0, 0, 0, 0, 0, 0, 0}, 28429701248-6<<32)
	wantSum(t, []byte{0xff, 0, 0, 0, 0, 0, 0}, 255*887503681+917087137-52<<32)
}

// The sum is taken over the last 16 bytes: one that 15 stand behind counts, one that 16 stand behind doesn't.
func TestWindow(t *testing.T) {
	const (
		power15 = 23465261991844685929951 // 31 to the power of 15
		zeros16 = (31*power15 - 1) / 30 % (1 << 32)
	)
	zeros := make([]byte, 40)
	wantSum(t, zeros[:16], zeros16)
	for n := 16; n <= 20; n++ {
		wantSum(t, append([]byte{0xff}, zeros[:n]...), zeros16)
		wantSum(t, append([]byte("abc"), zeros[:n]...), zeros16)
	}
	for _, ahead := range []int{0, 1, 2, 15, 16, 17} {
		data := append(bytes.Repeat([]byte("z"), ahead), 9)
		wantSum(t, append(data, zeros[:15]...), (zeros16+9*power15)%(1<<32))
	}
}

// P16.3: no bytes, one byte, and as many as Least and Most say, one fewer and one more.
func TestCutOfFew(t *testing.T) {
	for _, x := range []struct{ least, most int }{{1, 1}, {1, 2}, {2, 5}, {7, 7}, {16, 20}, {4095, 4096}, {4096, 4096}} {
		always, hardly := conf(x.least, 1, x.most), conf(x.least, 65536, x.most)
		zeros := make([]byte, 2*x.most+2)
		wantCut(t, always, nil)
		wantCut(t, hardly, nil)
		wantCut(t, always, zeros[:1], 1)
		wantCut(t, hardly, zeros[:1], 1)
		wantCut(t, always, zeros[:x.least], x.least)
		wantCut(t, always, zeros[:x.least+1], x.least, 1)
		wantCut(t, always, zeros[:2*x.least], x.least, x.least)
		wantCut(t, hardly, zeros[:x.most], x.most)
		wantCut(t, hardly, zeros[:x.most+1], x.most, 1)
		wantCut(t, hardly, zeros[:2*x.most], x.most, x.most)
		wantCut(t, hardly, zeros[:2*x.most+1], x.most, x.most, 1)
		if x.least > 1 {
			wantCut(t, always, zeros[:x.least-1], x.least-1)
			wantCut(t, hardly, zeros[:x.most-1], x.most-1)
		}
	}
}

// P16.3: a sum that says an end ahead of Least makes none, one at Least and behind it does, and so does Most.
func TestEndsAroundLeast(t *testing.T) {
	// Mean - 1 is the sum behind the first byte alone.
	first := []byte("a\x00\x00\x00")
	wantCut(t, conf(1, 99, 5), first, 1, 3)
	wantCut(t, conf(2, 99, 5), first, 4)
	wantCut(t, conf(1, 99, 1), first, 1, 1, 1, 1)
	// Mean - 1 is the sum behind the second byte alone.
	second := []byte("abcdef")
	wantCut(t, conf(1, 3138, 9), second, 2, 4)
	wantCut(t, conf(2, 3138, 9), second, 2, 4)
	wantCut(t, conf(3, 3138, 9), second, 6)
	wantCut(t, conf(1, 3138, 1), second, 1, 1, 1, 1, 1, 1)
	wantCut(t, conf(1, 3138, 2), second, 2, 2, 2)
	wantCut(t, conf(1, 3138, 3), second, 2, 3, 1)
	wantCut(t, conf(2, 3138, 3), second, 2, 3, 1)
	wantCut(t, conf(3, 3138, 3), second, 3, 3)
	wantCut(t, conf(3, 3138, 4), second, 4, 2)
}

// The last 16 bytes are of all bytes: those of the chunk ahead count in the sums of the next one.
func TestWindowOverEnds(t *testing.T) {
	// The sum is 98 behind the first a, and 3136, 97314, 3016832 behind the others: only the first one is 98 modulo 99.
	wantCut(t, conf(1, 99, 9), []byte("aaaa"), 1, 3)
	// The sum is 993 behind three bytes 00: the two of the chunk ahead, which ends by Most, and another one.
	wantCut(t, conf(1, 994, 2), make([]byte, 5), 2, 1, 2)
}

// P16.3: Cut and Parts where Check has an error.
func TestCutByNothing(t *testing.T) {
	for _, c := range never() {
		for _, data := range [][]byte{nil, []byte("a"), sample(5000)} {
			if list, e := chunk.Cut(c, data); len(list) != 0 || e != api.ErrArg {
				t.Errorf("Cut by %s of %d bytes = %v, %d", told(c), len(data), list, e)
			}
			for at, piece := range chunk.Parts(c, data) {
				t.Errorf("Parts by %s of %d bytes: %q at %d", told(c), len(data), piece, at)
			}
		}
	}
}

// P16.3: Parts left early gives no more; gone through again it gives the same from the beginning.
func TestPartsLeft(t *testing.T) {
	c, data := conf(1, 4, 6), sample(200)
	want := cut(t, c, data)
	if len(want) < 40 {
		t.Fatalf("only %d chunks", len(want))
	}
	all := chunk.Parts(c, data)
	for stop := range len(want) + 1 {
		seen, begin := 0, 0
		for at, piece := range all {
			if seen == stop {
				break
			}
			if at != begin || !bytes.Equal(piece, data[at:at+want[seen]]) {
				t.Fatalf("the chunk %d: %d bytes at %d; want %d at %d", seen, len(piece), at, want[seen], begin)
			}
			seen, begin = seen+1, begin+len(piece)
		}
		if seen != stop {
			t.Errorf("%d chunks were given; want %d", seen, stop)
		}
	}
	for stop := 1; stop <= len(want); stop++ {
		asked := 0
		all(func(int, []byte) bool {
			asked++
			return asked < stop
		})
		if asked != stop {
			t.Errorf("left behind %d chunks, but %d were given", stop, asked)
		}
	}
}

// P16.3: Parts gone through within itself: each one goes its own way.
func TestPartsWithinParts(t *testing.T) {
	c, data := conf(1, 4, 6), sample(100)
	want := lengths(parts(t, c, data))
	all := chunk.Parts(c, data)
	var outer []int
	for _, piece := range all {
		outer = append(outer, len(piece))
		var inner []int
		for _, piece := range all {
			inner = append(inner, len(piece))
		}
		if !slices.Equal(inner, want) {
			t.Fatalf("the inner one gave %v; want %v", inner, want)
		}
	}
	if !slices.Equal(outer, want) {
		t.Errorf("the outer one gave %v; want %v", outer, want)
	}
}

// P16.2: what Add and End answered stays as it is when the caller changes its own bytes and when more bytes come; and what was added stays, when the caller changes its own.
func TestAnswersStay(t *testing.T) {
	for _, c := range maybe() {
		data := sample(20000)
		k := cutter(t, c)
		var got, kept [][]byte
		buffer := make([]byte, 0, 64)
		for i := 0; i < len(data); i += 37 {
			buffer = append(buffer[:0], data[i:min(i+37, len(data))]...)
			got = append(got, k.Add(buffer)...)
			clear(buffer[:cap(buffer)])
		}
		got = append(got, k.End())
		for _, x := range got {
			kept = append(kept, bytes.Clone(x))
		}
		k.Add(bytes.Repeat([]byte{0xee}, 9000))
		k.End()
		if !slices.EqualFunc(got, kept, bytes.Equal) || !bytes.Equal(bytes.Join(got, nil), data) {
			t.Errorf("by %s: what was answered isn't what was added", told(c))
		}
	}
}

// fill writes a byte into all of a list, spare room included.
func fill(list []byte, b byte) {
	for i := range list[:cap(list)] {
		list[:cap(list)][i] = b
	}
}

// filled tells whether a list has just this byte.
func filled(list []byte, b byte) bool {
	return !slices.ContainsFunc(list, func(x byte) bool { return x != b })
}

// P16.2: what the caller writes into a chunk, spare room included, is seen neither in another chunk nor by the cutter.
func TestAnswersAreNew(t *testing.T) {
	for _, c := range maybe() {
		for _, step := range []int{1, 3, 16, 500, 20000} {
			k := cutter(t, c)
			for range 2 {
				data := sample(20000)
				var chunks [][]byte
				var all []byte
				spoil := func(piece []byte) {
					all = append(all, piece...)
					fill(piece, byte(len(chunks)))
					chunks = append(chunks, piece)
				}
				for i := 0; i < len(data); i += step {
					list := k.Add(data[i:min(i+step, len(data))])
					for _, piece := range list {
						spoil(piece)
					}
					clear(list[:cap(list)])
				}
				spoil(k.End())
				if !bytes.Equal(all, sample(20000)) || !bytes.Equal(data, sample(20000)) {
					t.Fatalf("by %s, %d bytes at a time: what is written into a chunk is seen", told(c), step)
				}
				for i, piece := range chunks {
					if !filled(piece, byte(i)) {
						t.Fatalf("by %s, %d bytes at a time: the chunk %d shares its bytes", told(c), step, i)
					}
				}
			}
		}
	}
}

// P16.2, P16.3: no list that is answered shares any with another one.
func TestListsAreNew(t *testing.T) {
	c, data := conf(1, 4, 6), sample(100)
	one, two := cut(t, c, data), cut(t, c, data)
	for i := range one[:cap(one)] {
		one[:cap(one)][i] = -1
	}
	if got := cut(t, c, data); !slices.Equal(two, got) || slices.Contains(got, -1) {
		t.Errorf("Cut = %v; want %v", got, two)
	}
}

// P16.3: what the caller writes into a chunk of Parts is seen neither in a later chunk nor when it is gone through again; what he writes into his own bytes behind the call isn't seen at all.
func TestPartsAreNew(t *testing.T) {
	for _, c := range maybe() {
		data := sample(9000)
		want := cut(t, c, data)
		all := chunk.Parts(c, data)
		clear(data)
		for range 2 {
			var joined []byte
			var got []int
			for at, piece := range all {
				if at != len(joined) {
					t.Fatalf("by %s: a chunk at %d; want %d", told(c), at, len(joined))
				}
				joined = append(joined, piece...)
				got = append(got, len(piece))
				fill(piece, 0xee)
			}
			if !bytes.Equal(joined, sample(9000)) || !slices.Equal(got, want) {
				t.Fatalf("by %s: what is written into a chunk, or into one's own bytes, is seen", told(c))
			}
		}
	}
}

// What is handed in isn't changed, spare room included.
func TestBytesStay(t *testing.T) {
	room := sample(700)
	data := room[:600]
	for _, c := range append(maybe(), never()...) {
		chunk.Cut(c, data)
		for range chunk.Parts(c, data) {
		}
		if k, e := chunk.New(c); e == api.OK {
			k.Add(data)
			k.Add(data[:9])
			k.End()
		}
		if !bytes.Equal(room, sample(700)) {
			t.Fatalf("by %s: the bytes became others", told(c))
		}
	}
}
