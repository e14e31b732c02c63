package six_test

import (
	"math"
	"strconv"
	"strings"
	"testing"

	"silo/api"
	"silo/six"
)

// numbers answers those near 0, and those whose forms stand just at, below and above a change of length or of sign.
func numbers() []int {
	list := []int{
		32767, 32768, 262143, 262144, 1<<54 - 1, 1 << 54, 1<<57 - 1, 1 << 57, 1<<57 + 1, 1<<60 - 1, 1 << 60, 1<<62 + 5,
		math.MaxInt - 1, math.MaxInt, -262144, -262145, -1 << 57, -1<<57 - 1, math.MinInt + 1, math.MinInt,
	}
	for n := -5000; n <= 5000; n++ {
		list = append(list, n)
	}
	return list
}

// form is a number's form, found another way: two digits to the base 8 are a group.
func form(n int) string {
	mark := byte(64)
	if n < 0 {
		mark, n = 128, -1-n
	}
	digits := strconv.FormatInt(int64(n), 8)
	if len(digits)%2 == 1 {
		digits = "0" + digits
	}
	var groups []byte
	for i := 0; i < len(digits); i += 2 {
		groups = append(groups, (digits[i]-'0')*8+digits[i+1]-'0')
	}
	groups[len(groups)-1] += mark
	return string(groups)
}

// wantRead holds what a reader answered against what it should have, and the bytes at which it stands.
func wantRead[T comparable](t *testing.T, call string, r *six.Reader, got, want T, e, wantE api.Errno, rest string) {
	t.Helper()
	if got != want || e != wantE {
		t.Errorf("%s = %#v, %d; want %#v, %d", call, got, e, want, wantE)
	}
	if r.Rest() != rest {
		t.Errorf("%s: left %x; want %x", call, r.Rest(), rest)
	}
}

func wantBytes(t *testing.T, call string, w *six.Writer, e, wantE api.Errno, want string) {
	t.Helper()
	if e != wantE || w.Bytes() != want {
		t.Errorf("%s: %d, %x; want %d, %x", call, e, w.Bytes(), wantE, want)
	}
}

// P1.1: the forms that the chapter writes out.
func TestExamples(t *testing.T) {
	for _, x := range []struct {
		n    int
		want string
	}{
		{0, "\x40"}, {63, "\x7f"}, {64, "\x01\x40"}, {4096, "\x01\x00\x40"}, {-1, "\x80"}, {-65, "\x01\x80"}, {-64, "\xbf"},
		{math.MaxInt, "\x07" + strings.Repeat("\x3f", 9) + "\x7f"},
		{math.MinInt, "\x07" + strings.Repeat("\x3f", 9) + "\xbf"},
	} {
		w := six.New()
		wantBytes(t, "Whole "+strconv.Itoa(x.n), w, w.Whole(x.n), api.OK, x.want)
		w = six.New()
		if x.n < 0 {
			wantBytes(t, "Count "+strconv.Itoa(x.n), w, w.Count(x.n), api.ErrArg, "")
		} else {
			wantBytes(t, "Count "+strconv.Itoa(x.n), w, w.Count(x.n), api.OK, x.want)
		}
	}
	w := six.New()
	wantBytes(t, "Text ab", w, w.Text("ab"), api.OK, "\x42ab")
}

// P1.1
func TestNewHasNoBytes(t *testing.T) {
	a, b := six.New(), six.New()
	if a.Bytes() != "" {
		t.Errorf("new writer: %x", a.Bytes())
	}
	a.Raw("a")
	if b.Bytes() != "" {
		t.Errorf("another writer has %x", b.Bytes())
	}
}

// P1.1: numbers, held against their forms found another way.
func TestWriterNumbers(t *testing.T) {
	for _, n := range numbers() {
		call := strconv.Itoa(n)
		w := six.New()
		wantBytes(t, "Whole "+call, w, w.Whole(n), api.OK, form(n))
		w = six.New()
		if n < 0 {
			wantBytes(t, "Count "+call, w, w.Count(n), api.ErrArg, "")
		} else {
			wantBytes(t, "Count "+call, w, w.Count(n), api.OK, form(n))
		}
	}
}

// P1.1: texts stand behind their lengths, raw bytes alone, all of them as they are.
func TestWriterTexts(t *testing.T) {
	for _, s := range []string{"", "a", "\x00", "\xff\xfe", "\u00e4\u20ac", strings.Repeat("x", 63), strings.Repeat("y", 64), strings.Repeat("z", 4096)} {
		w := six.New()
		wantBytes(t, "Text", w, w.Text(s), api.OK, form(len(s))+s)
		w = six.New()
		wantBytes(t, "Raw", w, w.Raw(s), api.OK, s)
	}
}

// P1.1: what is added stands behind what was, and a refused call adds nothing.
func TestWriterKeepsOrder(t *testing.T) {
	w := six.New()
	wantBytes(t, "Raw", w, w.Raw("r"), api.OK, "r")
	wantBytes(t, "Count", w, w.Count(64), api.OK, "r\x01\x40")
	early := w.Bytes()
	wantBytes(t, "Count below 0", w, w.Count(-1), api.ErrArg, "r\x01\x40")
	wantBytes(t, "Count of the least", w, w.Count(math.MinInt), api.ErrArg, "r\x01\x40")
	wantBytes(t, "PutList of a nil put", w, six.PutList(w, []int{1}, nil), api.ErrArg, "r\x01\x40")
	wantBytes(t, "Whole", w, w.Whole(-65), api.OK, "r\x01\x40\x01\x80")
	wantBytes(t, "Text", w, w.Text("t"), api.OK, "r\x01\x40\x01\x80\x41t")
	if early != "r\x01\x40" {
		t.Errorf("what Bytes had answered became %x", early)
	}
}

func putText(w *six.Writer, s string) { w.Text(s) }

func takeText(r *six.Reader) (string, api.Errno) { return r.Text() }

func putTexts(w *six.Writer, list []string) { six.PutList(w, list, putText) }

func takeTexts(r *six.Reader) ([]string, api.Errno) { return six.TakeList(r, takeText) }

func takeWhole(r *six.Reader) (int, api.Errno) { return r.Whole() }

// P1.1
func TestPutList(t *testing.T) {
	w := six.New()
	wantBytes(t, "texts", w, six.PutList(w, []string{"a", ""}, putText), api.OK, "\x42\x41a\x40")
	w = six.New()
	wantBytes(t, "lists of texts", w, six.PutList(w, [][]string{{"a"}, nil, {"", "b"}}, putTexts), api.OK, "\x43\x41\x41a\x40\x42\x40\x41b")
	w = six.New()
	many := make([]int, 64)
	wantBytes(t, "64 things", w, six.PutList(w, many, func(w *six.Writer, n int) { w.Whole(n - 1) }), api.OK, "\x01\x40"+strings.Repeat("\x80", 64))
}

// P1.1: put is called for each thing, in order, with the writer, behind the number.
func TestPutListCalls(t *testing.T) {
	w := six.New()
	w.Raw("x")
	list := []int{7, 5, 7}
	want := []string{"x\x43", "x\x43", "x\x43p"}
	var got []int
	six.PutList(w, list, func(to *six.Writer, n int) {
		if to != w || w.Bytes() != want[len(got)] {
			t.Errorf("put %d: same writer: %v, bytes %x", len(got), to == w, w.Bytes())
		}
		got = append(got, n)
		if len(got) == 2 {
			to.Raw("p")
		}
	})
	if len(got) != 3 || got[0] != 7 || got[1] != 5 || got[2] != 7 || list[0] != 7 || list[1] != 5 || list[2] != 7 {
		t.Errorf("put was called with %v of %v", got, list)
	}
}

// P1.1
func TestPutListOfNothing(t *testing.T) {
	for _, list := range [][]int{nil, {}} {
		w := six.New()
		e := six.PutList(w, list, func(*six.Writer, int) { t.Error("put was called of an empty list") })
		wantBytes(t, "empty list", w, e, api.OK, "\x40")
		w = six.New()
		wantBytes(t, "empty list, nil put", w, six.PutList(w, list, nil), api.ErrArg, "")
	}
}

// P1.2
func TestEndAndRest(t *testing.T) {
	r := six.Over("")
	if r.End() != api.OK || r.Rest() != "" {
		t.Errorf("reader over nothing: End %d, Rest %x", r.End(), r.Rest())
	}
	r = six.Over("ab")
	for _, rest := range []string{"ab", "b"} {
		if r.End() != api.ErrTail || r.Rest() != rest || r.Rest() != rest {
			t.Errorf("End %d, Rest %q; want %q", r.End(), r.Rest(), rest)
		}
		r.Raw(1)
	}
	if r.End() != api.OK || r.Rest() != "" {
		t.Errorf("at the end: End %d, Rest %q", r.End(), r.Rest())
	}
}

// P1.2: a call stands behind what it went over, and where it stood if it answers an error.
func TestReaderMoves(t *testing.T) {
	r := six.Over("\x01\x40\x80\x42abcd\x41\x80\x43xy")
	n, e := r.Count()
	wantRead(t, "Count", r, n, 64, e, api.OK, "\x80\x42abcd\x41\x80\x43xy")
	n, e = r.Count()
	wantRead(t, "Count of a number below 0", r, n, 0, e, api.ErrForm, "\x80\x42abcd\x41\x80\x43xy")
	n, e = r.Whole()
	wantRead(t, "Whole", r, n, -1, e, api.OK, "\x42abcd\x41\x80\x43xy")
	s, e := r.Text()
	wantRead(t, "Text", r, s, "ab", e, api.OK, "cd\x41\x80\x43xy")
	s, e = r.Raw(2)
	wantRead(t, "Raw", r, s, "cd", e, api.OK, "\x41\x80\x43xy")
	l, e := takeTexts(r)
	wantRead(t, "TakeList", r, len(l), 0, e, api.ErrForm, "\x41\x80\x43xy")
	s, e = r.Raw(2)
	wantRead(t, "Raw", r, s, "\x41\x80", e, api.OK, "\x43xy")
	s, e = r.Text()
	wantRead(t, "Text that ends too early", r, s, "", e, api.ErrShort, "\x43xy")
	s, e = r.Raw(4)
	wantRead(t, "Raw of more than there is", r, s, "", e, api.ErrShort, "\x43xy")
	n, e = r.Count()
	wantRead(t, "Count", r, n, 3, e, api.OK, "xy")
}

// P1.3
func TestReadNumbers(t *testing.T) {
	for _, n := range numbers() {
		call := strconv.Itoa(n)
		r := six.Over(form(n) + "\x40")
		got, e := r.Whole()
		wantRead(t, "Whole of "+call, r, got, n, e, api.OK, "\x40")
		r = six.Over(form(n) + "\x40")
		got, e = r.Count()
		if n < 0 {
			wantRead(t, "Count of "+call, r, got, 0, e, api.ErrForm, form(n)+"\x40")
		} else {
			wantRead(t, "Count of "+call, r, got, n, e, api.OK, "\x40")
		}
	}
}

// P1.3: each byte as a first one.
func TestFirstByte(t *testing.T) {
	for b := 0; b < 256; b++ {
		text := string([]byte{byte(b)})
		want, wantE, rest := 0, api.ErrForm, text
		switch {
		case b == 0 || b > 191:
		case b < 64:
			wantE = api.ErrShort
		case b < 128:
			want, wantE, rest = b-64, api.OK, ""
		default:
			want, wantE, rest = 127-b, api.OK, ""
		}
		r := six.Over(text)
		n, e := r.Whole()
		wantRead(t, "Whole of "+strconv.Itoa(b), r, n, want, e, wantE, rest)
		if want < 0 {
			want, wantE, rest = 0, api.ErrForm, text
		}
		r = six.Over(text)
		n, e = r.Count()
		wantRead(t, "Count of "+strconv.Itoa(b), r, n, want, e, wantE, rest)
	}
}

// P1.3: the bytes are looked at one by one, so that the first fault is the one that is told.
func TestWrongNumbers(t *testing.T) {
	zeros := strings.Repeat("\x00", 9)
	full := strings.Repeat("\x3f", 9)
	for _, x := range []struct {
		text string
		want api.Errno
	}{
		{"", api.ErrShort}, {"\x01", api.ErrShort}, {"\x3f\x00\x01", api.ErrShort},
		{"\x00", api.ErrForm}, {"\x00\x41", api.ErrForm}, {"\x00\x00\x40", api.ErrForm}, {"\x00\x80", api.ErrForm},
		{"\xc0", api.ErrForm}, {"\xff", api.ErrForm}, {"\xc0\x40", api.ErrForm}, {"\x01\xc0", api.ErrForm}, {"\x01\x00\xff\x40", api.ErrForm},
		{"\x07" + full, api.ErrShort}, {"\x07" + full + "\xc0", api.ErrForm},
		{"\x07" + full + "\x3f", api.ErrShort}, {"\x07" + full + "\x00", api.ErrShort},
		{"\x07" + full + "\x3f\x40", api.ErrForm}, {"\x07" + full + "\x00\x40", api.ErrForm},
		{"\x08" + zeros, api.ErrShort}, {"\x08" + zeros + "\x40", api.ErrForm}, {"\x08" + zeros + "\x80", api.ErrForm},
		{"\x08" + zeros + "\x00", api.ErrForm}, {"\x08" + zeros + "\xff", api.ErrForm},
		{"\x01" + zeros + "\x00", api.ErrShort}, {"\x01" + zeros + "\x00\x40", api.ErrForm},
		{"\x3f" + full, api.ErrShort}, {"\x3f" + full + "\x7f", api.ErrForm},
		{strings.Repeat("\x01", 100) + "\x40", api.ErrForm},
	} {
		r := six.Over(x.text)
		n, e := r.Whole()
		wantRead(t, "Whole of "+strconv.Quote(x.text), r, n, 0, e, x.want, x.text)
		n, e = r.Count()
		wantRead(t, "Count of "+strconv.Quote(x.text), r, n, 0, e, x.want, x.text)
	}
}

// P1.3: 2^57 - 1 is the greatest number ahead of which one group more goes, 2^57 itself is a number.
func TestMostAhead(t *testing.T) {
	full := strings.Repeat("\x3f", 9)
	zeros := strings.Repeat("\x00", 8)
	for text, want := range map[string]int{
		"\x07" + full + "\x40":  math.MaxInt - 63,
		"\x07" + full + "\x7f":  math.MaxInt,
		"\x07" + full + "\x80":  math.MinInt + 63,
		"\x07" + full + "\xbf":  math.MinInt,
		"\x08" + zeros + "\x40": 1 << 57,
		"\x08" + zeros + "\x80": -1<<57 - 1,
	} {
		r := six.Over(text)
		n, e := r.Whole()
		wantRead(t, "Whole of "+strconv.Quote(text), r, n, want, e, api.OK, "")
	}
}

// P1.4
func TestRaw(t *testing.T) {
	for _, x := range []struct {
		text string
		n    int
		want string
		e    api.Errno
		rest string
	}{
		{"", 0, "", api.OK, ""}, {"", 1, "", api.ErrShort, ""}, {"", -1, "", api.ErrArg, ""},
		{"abc", 0, "", api.OK, "abc"}, {"abc", 2, "ab", api.OK, "c"}, {"abc", 3, "abc", api.OK, ""},
		{"abc", 4, "", api.ErrShort, "abc"}, {"abc", math.MaxInt, "", api.ErrShort, "abc"},
		{"abc", -1, "", api.ErrArg, "abc"}, {"abc", math.MinInt, "", api.ErrArg, "abc"},
		{"\x00\xff", 2, "\x00\xff", api.OK, ""},
	} {
		r := six.Over(x.text)
		s, e := r.Raw(x.n)
		wantRead(t, "Raw "+strconv.Itoa(x.n)+" of "+strconv.Quote(x.text), r, s, x.want, e, x.e, x.rest)
	}
}

// P1.4
func TestText(t *testing.T) {
	long := strings.Repeat("z", 4096)
	for _, x := range []struct {
		text, want string
		e          api.Errno
		rest       string
	}{
		{"\x40", "", api.OK, ""}, {"\x40a", "", api.OK, "a"}, {"\x42ab", "ab", api.OK, ""}, {"\x42abc", "ab", api.OK, "c"},
		{"\x42\x00\xff", "\x00\xff", api.OK, ""}, {"\x01\x00\x40" + long, long, api.OK, ""},
		{"", "", api.ErrShort, ""}, {"\x01", "", api.ErrShort, "\x01"}, {"\x41", "", api.ErrShort, "\x41"}, {"\x43ab", "", api.ErrShort, "\x43ab"},
		{"\x80", "", api.ErrForm, "\x80"}, {"\x80ab", "", api.ErrForm, "\x80ab"}, {"\x00\x41a", "", api.ErrForm, "\x00\x41a"}, {"\xc0", "", api.ErrForm, "\xc0"},
		{form(math.MaxInt) + "ab", "", api.ErrShort, form(math.MaxInt) + "ab"}, {form(math.MinInt), "", api.ErrForm, form(math.MinInt)},
	} {
		r := six.Over(x.text)
		s, e := r.Text()
		wantRead(t, "Text of "+strconv.Quote(x.text), r, s, x.want, e, x.e, x.rest)
	}
}

// P1.5
func TestTakeList(t *testing.T) {
	for _, x := range []struct {
		text, want string
		e          api.Errno
		rest       string
	}{
		{"\x42\x41a\x40", "a,", api.OK, ""}, {"\x42\x41a\x40z", "a,", api.OK, "z"}, {"\x41\x41ab", "a", api.OK, "b"},
		{"\x40", "", api.OK, ""}, {"\x40a", "", api.OK, "a"},
		{"\x43\x41c\x41a\x41b", "c,a,b", api.OK, ""},
		{"", "", api.ErrShort, ""}, {"\x01", "", api.ErrShort, "\x01"}, {"\x80", "", api.ErrForm, "\x80"}, {"\x00\x41", "", api.ErrForm, "\x00\x41"},
		{"\x43\x41a", "", api.ErrShort, "\x43\x41a"}, {"\x41", "", api.ErrShort, "\x41"}, {"\x41\x42a", "", api.ErrShort, "\x41\x42a"},
		{"\x42\x41a\x80", "", api.ErrForm, "\x42\x41a\x80"}, {"\x42\x41a\x80\x40", "", api.ErrForm, "\x42\x41a\x80\x40"},
		{form(math.MaxInt) + "\x41a", "", api.ErrShort, form(math.MaxInt) + "\x41a"},
		{form(math.MaxInt) + "\x41a\xff", "", api.ErrForm, form(math.MaxInt) + "\x41a\xff"},
	} {
		r := six.Over(x.text)
		l, e := six.TakeList(r, takeText)
		call := "TakeList of " + strconv.Quote(x.text)
		wantRead(t, call, r, strings.Join(l, ","), x.want, e, x.e, x.rest)
		if e != api.OK && len(l) != 0 {
			t.Errorf("%s: %d things beside an error", call, len(l))
		}
		r = six.Over(x.text)
		none, e := six.TakeList[string](r, nil)
		wantRead(t, call+" with a nil take", r, len(none), 0, e, api.ErrArg, x.text)
	}
}

// P1.5: take is called with the reader itself, once a thing, and not where no byte is left.
func TestTakeListCalls(t *testing.T) {
	for _, x := range []struct {
		text  string
		calls int
		e     api.Errno
	}{
		{"\x40", 0, api.OK}, {"\x42\x41\x42", 2, api.OK}, {"\x42\x41\x42\x43", 2, api.OK},
		{"\x43\x41\x42", 2, api.ErrShort}, {"\x41", 0, api.ErrShort}, {"", 0, api.ErrShort}, {"\x80\x41", 0, api.ErrForm},
	} {
		r := six.Over(x.text)
		calls := 0
		_, e := six.TakeList(r, func(from *six.Reader) (int, api.Errno) {
			if from != r {
				t.Error("take was called with another reader")
			}
			calls++
			return from.Whole()
		})
		if calls != x.calls || e != x.e {
			t.Errorf("TakeList of %x: %d calls, %d; want %d, %d", x.text, calls, e, x.calls, x.e)
		}
	}
}

// P1.5, P1.2: an error of take's own is answered as it is, nothing beside it, and the list is not gone over.
func TestTakeListError(t *testing.T) {
	const text = "\x43\x41\x42\x43z"
	for at := 1; at <= 3; at++ {
		for _, want := range []api.Errno{api.ErrSum, api.ErrTail, api.Errno(99), api.Errno(-1)} {
			r := six.Over(text)
			calls := 0
			l, e := six.TakeList(r, func(r *six.Reader) (int, api.Errno) {
				calls++
				n, _ := r.Whole()
				if calls == at {
					return n, want
				}
				return n, api.OK
			})
			wantRead(t, "TakeList", r, len(l), 0, e, want, text)
			if calls != at {
				t.Errorf("take was called %d times; want %d", calls, at)
			}
		}
	}
}

// P1.5: what two calls answer shares no memory, spare room included.
func TestTakeListIsNew(t *testing.T) {
	text := form(3) + form(1) + form(2) + form(3)
	a, _ := six.TakeList(six.Over(text), takeWhole)
	b, _ := six.TakeList(six.Over(text), takeWhole)
	if len(a) != 3 || len(b) != 3 {
		t.Fatalf("%v, %v", a, b)
	}
	a[0] = 9
	_, spare := append(a, 8), append(b, 7)
	if b[0] != 1 || b[1] != 2 || b[2] != 3 || spare[3] != 7 {
		t.Errorf("%v, %v", b, spare)
	}
}

type pair struct {
	name string
	size int
}

// P1.5, P1.6: lists of structs, and of lists.
func TestListsOfAnything(t *testing.T) {
	w := six.New()
	six.PutList(w, []pair{{"a", -7}, {"", 64}}, func(w *six.Writer, p pair) { w.Text(p.name); w.Whole(p.size) })
	six.PutList(w, [][]string{{"x", "yy"}, {}, {""}}, putTexts)
	r := six.Over(w.Bytes())
	pairs, e := six.TakeList(r, func(r *six.Reader) (pair, api.Errno) {
		name, e := r.Text()
		if e != api.OK {
			return pair{}, e
		}
		size, e := r.Whole()
		return pair{name, size}, e
	})
	if e != api.OK || len(pairs) != 2 || pairs[0] != (pair{"a", -7}) || pairs[1] != (pair{"", 64}) {
		t.Errorf("pairs %v, %d", pairs, e)
	}
	lists, e := six.TakeList(r, takeTexts)
	if e != api.OK || len(lists) != 3 || strings.Join(lists[0], ",") != "x,yy" || len(lists[1]) != 0 || len(lists[2]) != 1 || lists[2][0] != "" {
		t.Errorf("lists %v, %d", lists, e)
	}
	if r.End() != api.OK {
		t.Errorf("left %x", r.Rest())
	}
}

// P1.6: lists of any length come back.
func TestLongLists(t *testing.T) {
	for _, size := range []int{0, 1, 63, 64, 65, 4095, 4096, 5000} {
		list := make([]int, size)
		for i := range list {
			list[i] = i - size/2
		}
		w := six.New()
		six.PutList(w, list, func(w *six.Writer, n int) { w.Whole(n) })
		r := six.Over(w.Bytes() + "z")
		got, e := six.TakeList(r, takeWhole)
		wantRead(t, "TakeList", r, len(got), size, e, api.OK, "z")
		for i := range got {
			if got[i] != list[i] {
				t.Fatalf("thing %d of %d is %d; want %d", i, size, got[i], list[i])
			}
		}
	}
}

// added is one thing of those that a writer takes.
type added struct {
	kind, n int
	text    string
}

// someAdded answers things to add, the same ones in each run.
func someAdded(seed uint64) []added {
	var list []added
	for range 40 {
		seed = seed*6364136223846793005 + 1442695040888963407
		mixed := seed ^ seed>>29
		n := int(mixed) >> (mixed >> 5 % 64)
		text := strings.Repeat(string([]byte{byte(n)}), int(mixed>>11%3*(mixed>>40%150)))
		list = append(list, added{int(mixed >> 50 % 4), n, text})
	}
	return list
}

func (x added) put(w *six.Writer) api.Errno {
	switch x.kind {
	case 0:
		return w.Count(x.n & math.MaxInt)
	case 1:
		return w.Whole(x.n)
	case 2:
		return w.Text(x.text)
	}
	return w.Raw(x.text)
}

// back tells whether the reader goes over the same thing.
func (x added) back(r *six.Reader) bool {
	switch x.kind {
	case 0:
		n, e := r.Count()
		return e == api.OK && n == x.n&math.MaxInt
	case 1:
		n, e := r.Whole()
		return e == api.OK && n == x.n
	case 2:
		s, e := r.Text()
		return e == api.OK && s == x.text
	}
	s, e := r.Raw(len(x.text))
	return e == api.OK && s == x.text
}

// P1.6: what was added is gone over by the calls of the same names, in the same order.
func TestAllComesBack(t *testing.T) {
	for seed := range 500 {
		list := someAdded(uint64(seed))
		w := six.New()
		for i, x := range list {
			if e := x.put(w); e != api.OK {
				t.Fatalf("seed %d, thing %d %#v: %d", seed, i, x, e)
			}
		}
		r := six.Over(w.Bytes())
		for i, x := range list {
			rest := r.Rest()
			if !x.back(r) {
				t.Fatalf("seed %d, thing %d %#v didn't come back of %x", seed, i, x, rest)
			}
		}
		if r.End() != api.OK {
			t.Errorf("seed %d: left %x", seed, r.Rest())
		}
	}
}

// P1.6: bytes that are gone over are just those that adding makes: no number has a second form.
func TestOneForm(t *testing.T) {
	check := func(text string) {
		r := six.Over(text)
		n, e := r.Whole()
		if e != api.OK {
			if n != 0 || r.Rest() != text {
				t.Errorf("Whole of %x: %d, %d, left %x", text, n, e, r.Rest())
			}
			return
		}
		w := six.New()
		w.Whole(n)
		if w.Bytes()+r.Rest() != text {
			t.Errorf("Whole of %x: %d, whose form is %x; left %x", text, n, w.Bytes(), r.Rest())
		}
	}
	few := []byte{0, 1, 7, 8, 62, 63, 64, 65, 127, 128, 129, 191, 192, 255}
	for a := range 256 {
		for b := range 256 {
			check(string([]byte{byte(a), byte(b)}))
			for _, c := range few {
				check(string([]byte{byte(a), byte(b), c}))
			}
		}
	}
	middle := strings.Repeat("\x3f", 7)
	for _, a := range few {
		for _, b := range few {
			for _, c := range few {
				for _, d := range few {
					check(string([]byte{a, b}) + middle + string([]byte{c, d}))
					check(string([]byte{a, b}) + middle + "\x00" + string([]byte{c, d}))
				}
			}
		}
	}
}

// P1.7
func TestNilWriter(t *testing.T) {
	var w *six.Writer
	if w.Bytes() != "" {
		t.Errorf("Bytes %x", w.Bytes())
	}
	never := func(*six.Writer, int) { t.Error("put was called with a nil writer") }
	for call, e := range map[string]api.Errno{
		"Count": w.Count(0), "Count below 0": w.Count(-1), "Whole": w.Whole(0), "Whole below 0": w.Whole(-1), "Text": w.Text("a"), "empty Text": w.Text(""),
		"Raw": w.Raw("a"), "empty Raw": w.Raw(""),
		"PutList": six.PutList(w, []int{1}, never), "empty PutList": six.PutList(w, nil, never), "PutList, nil put": six.PutList(w, []int{1}, nil),
	} {
		if e != api.ErrArg {
			t.Errorf("%s of a nil writer: %d", call, e)
		}
	}
}

// P1.7
func TestNilReader(t *testing.T) {
	var r *six.Reader
	if r.Rest() != "" || r.End() != api.ErrArg {
		t.Errorf("Rest %x, End %d", r.Rest(), r.End())
	}
	n, e := r.Count()
	wantRead(t, "Count", r, n, 0, e, api.ErrArg, "")
	n, e = r.Whole()
	wantRead(t, "Whole", r, n, 0, e, api.ErrArg, "")
	s, e := r.Text()
	wantRead(t, "Text", r, s, "", e, api.ErrArg, "")
	for _, size := range []int{-1, 0, 1} {
		s, e = r.Raw(size)
		wantRead(t, "Raw", r, s, "", e, api.ErrArg, "")
	}
	l, e := six.TakeList(r, func(*six.Reader) (int, api.Errno) {
		t.Error("take was called with a nil reader")
		return 0, api.OK
	})
	wantRead(t, "TakeList", r, len(l), 0, e, api.ErrArg, "")
	l, e = six.TakeList[int](r, nil)
	wantRead(t, "TakeList, nil take", r, len(l), 0, e, api.ErrArg, "")
}
