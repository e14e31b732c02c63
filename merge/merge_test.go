package merge_test

import (
	"fmt"
	"iter"
	"slices"
	"strings"
	"testing"

	"silo/api"
	"silo/merge"
)

// An entry is told as a text: its key, then = and its value, or ! where it is gone. A row: its entries with blanks between, then / and the number of its error, where it ends with one.

// entry answers the entry of a text.
func entry(s string) api.Entry {
	if key, ok := strings.CutSuffix(s, "!"); ok {
		return api.Entry{Key: key, Gone: true}
	}
	key, val, _ := strings.Cut(s, "=")
	return api.Entry{Key: key, Val: val}
}

// entries answers the entries of a text.
func entries(s string) []api.Entry {
	var list []api.Entry
	for _, f := range strings.Fields(s) {
		list = append(list, entry(f))
	}
	return list
}

// text tells what a Next answered.
func text(x api.Entry, ok bool, e api.Errno) string {
	switch {
	case ok && e == api.OK && x.Gone && x.Val == "":
		return x.Key + "!"
	case ok && e == api.OK && !x.Gone:
		return x.Key + "=" + x.Val
	case !ok && e == api.OK && x == (api.Entry{}):
		return "end"
	case !ok && x == (api.Entry{}):
		return fmt.Sprint("/", int(e))
	}
	return fmt.Sprintf("(%v, %t, %d)", x, ok, e)
}

// over answers a cursor over the entries of a text.
func over(s string) *merge.Cursor { return merge.Over(entries(s)) }

// source answers entries, then its last answer, and counts how often it was asked. Who asks it behind that is misled.
type source struct {
	list  []api.Entry
	entry api.Entry // the last answer
	ok    bool
	e     api.Errno
	asked int
}

func (s *source) next() (api.Entry, bool, api.Errno) {
	s.asked++
	switch n := s.asked - 1; {
	case n < len(s.list):
		return s.list[n], true, api.OK
	case n == len(s.list):
		return s.entry, s.ok, s.e
	}
	return api.Entry{Key: fmt.Sprint("~", s.asked)}, true, api.OK
}

// from answers a source of the entries of a text, which ends as the text says, and a cursor over it.
func from(s string) (*source, *merge.Cursor) {
	list, last, _ := strings.Cut(s, "/")
	from := &source{list: entries(list)}
	fmt.Sscan(last, &from.e)
	return from, merge.From(from.next)
}

// cursor answers a cursor over a row that is told by a text.
func cursor(s string) *merge.Cursor {
	_, c := from(s)
	return c
}

// cursors answers cursors over rows that are told by texts.
func cursors(rows ...string) []*merge.Cursor {
	var list []*merge.Cursor
	for _, s := range rows {
		list = append(list, cursor(s))
	}
	return list
}

// wantNext wants a cursor to tell this next.
func wantNext(t *testing.T, name string, c *merge.Cursor, want ...string) {
	t.Helper()
	for i, s := range want {
		if got := text(c.Next()); got != s {
			t.Errorf("%s: Next %d = %s; want %s", name, i, got, s)
		}
	}
}

// rest answers what is left of a row, as a text, and wants its end to stay.
func rest(t *testing.T, name string, c *merge.Cursor) string {
	t.Helper()
	var told []string
	x, ok, e := c.Next()
	for ; ok && len(told) < 1000; x, ok, e = c.Next() {
		told = append(told, text(x, ok, e))
	}
	end := text(x, ok, e)
	wantNext(t, name+", behind its end", c, end, end, end)
	if end != "end" {
		told = append(told, end)
	}
	return strings.Join(told, " ")
}

// wantRest wants this to be left of a row.
func wantRest(t *testing.T, name string, c *merge.Cursor, want string) {
	t.Helper()
	if got := rest(t, name, c); got != want {
		t.Errorf("%s: %q; want %q", name, got, want)
	}
}

// wantAsked wants a source to have been asked so often.
func wantAsked(t *testing.T, name string, s *source, want int) {
	t.Helper()
	if s.asked != want {
		t.Errorf("%s: asked %d times; want %d", name, s.asked, want)
	}
}

// all answers what a range over a cursor's entries gives, as a text.
func all(row iter.Seq2[api.Entry, api.Errno]) string {
	var told []string
	for x, e := range row {
		told = append(told, text(x, e == api.OK, e))
	}
	return strings.Join(told, " ")
}

func TestExamples(t *testing.T) {
	rows := func() *merge.Cursor { return merge.Merge(over("a=1 c=1"), over("a=2 b!")) }
	wantRest(t, "the first example", rows(), "a=1 b! c=1")
	wantRest(t, "the first example, Live", merge.Live(rows()), "a=1 c=1")
	wantNext(t, "the second example", over("b=1 a=1"), "b=1", "/3", "/3", "/3")
}

func TestOver(t *testing.T) {
	for _, list := range [][]api.Entry{nil, {}, make([]api.Entry, 0, 3)} {
		wantNext(t, "no entries", merge.Over(list), "end", "end", "end")
	}
	wantNext(t, "one", over("a=1"), "a=1", "end", "end", "end")
	wantNext(t, "one that is gone", over("a!"), "a!", "end", "end", "end")
	wantNext(t, "one without a value", over("a="), "a=", "end", "end")
	wantNext(t, "no key", merge.Over([]api.Entry{{Val: "1"}, {Key: "\x00"}}), "=1", "\x00=", "end", "end")
	wantNext(t, "as Go compares strings", over("A= B= a= a\x00= aa= b= \xff= \xff\x00="), "A=", "B=", "a=", "a\x00=", "aa=", "b=", "\xff=", "\xff\x00=", "end")
	var list []api.Entry
	for i := range 300 {
		list = append(list, api.Entry{Key: fmt.Sprintf("%03d", i), Val: fmt.Sprint(i), Gone: i%7 == 3})
	}
	c := merge.Over(list)
	for i, want := range list {
		if x, ok, e := c.Next(); x != want || !ok || e != api.OK {
			t.Errorf("Next %d = %v, %t, %d; want %v", i, x, ok, e, want)
		}
	}
	wantNext(t, "behind many", c, "end", "end", "end")
}

// What is handed in isn't changed, and isn't kept.
func TestOversList(t *testing.T) {
	room := entries("a=1 c=1 b=1 e=1")
	kept := slices.Clone(room)
	list := room[:2]
	c := merge.Over(list)
	wantNext(t, "the list", c, "a=1")
	if !slices.Equal(room, kept) {
		t.Errorf("the list and its room are %v", room)
	}
	list[0], list[1] = entry("x=2"), entry("y=2")
	wantNext(t, "a list that was written into", c, "c=1", "end")
	again := merge.Over(kept[:2])
	wantRest(t, "another cursor over it", merge.Merge(again, over("d=2")), "a=1 c=1 d=2")
	if !slices.Equal(kept, entries("a=1 c=1 b=1 e=1")) {
		t.Errorf("the list and its room are %v", kept)
	}
}

// Two cursors over one list don't know of each other.
func TestOverTwice(t *testing.T) {
	list := entries("a=1 b=1")
	c, d := merge.Over(list), merge.Over(list)
	wantNext(t, "the first", c, "a=1", "b=1", "end")
	wantNext(t, "the second", d, "a=1", "b=1", "end")
}

// A source is asked once for each Next, and no more behind its end.
func TestFrom(t *testing.T) {
	tests := []struct {
		name string
		s    source
		want []string // each Next
	}{
		{"none", source{}, []string{"end"}},
		{"one", source{list: entries("a=1")}, []string{"a=1", "end"}},
		{"some", source{list: entries("a=1 b! c=")}, []string{"a=1", "b!", "c=", "end"}},
		{"an entry beside false", source{list: entries("a=1"), entry: entry("b=1")}, []string{"a=1", "end"}},
		{"an entry beside false alone", source{entry: entry("b=1")}, []string{"end"}},
		{"an error alone", source{e: api.ErrDown}, []string{"/8"}},
		{"an error", source{list: entries("a=1 b=1"), e: api.ErrSum}, []string{"a=1", "b=1", "/4"}},
		{"an entry beside an error", source{list: entries("a=1"), entry: entry("b=1"), ok: true, e: api.ErrCorrupt}, []string{"a=1", "/12"}},
		{"an entry beside an error alone", source{entry: entry("b=1"), ok: true, e: api.ErrDown}, []string{"/8"}},
		{"an entry, false and an error", source{list: entries("a=1"), entry: entry("b=1"), e: api.ErrDown}, []string{"a=1", "/8"}},
		{"true and an error without an entry", source{list: entries("a=1"), ok: true, e: api.ErrArg}, []string{"a=1", "/1"}},
		{"an error below 0", source{e: -7}, []string{"/-7"}},
		{"an error without a name", source{list: entries("a=1"), e: 1 << 40}, []string{"a=1", "/1099511627776"}},
		{"an error whose entry doesn't rise", source{list: entries("a=1 b=1"), entry: entry("a=1"), ok: true, e: api.ErrDown}, []string{"a=1", "b=1", "/8"}},
		{"false beside what doesn't rise", source{list: entries("b=1"), entry: entry("a=1")}, []string{"b=1", "end"}},
	}
	for _, test := range tests {
		s := test.s
		c := merge.From(s.next)
		wantAsked(t, test.name+", at first", &s, 0)
		for i, want := range test.want {
			wantNext(t, test.name, c, want)
			wantAsked(t, test.name, &s, i+1)
		}
		end := test.want[len(test.want)-1]
		wantNext(t, test.name+", behind that", c, end, end, end, end)
		wantAsked(t, test.name+", behind that", &s, len(test.want))
	}
}

// fallen are rows whose keys don't rise, and what they tell.
var fallen = []struct{ row, want string }{
	{"a=1 a=2 b=1 c=1", "a=1 /3"},
	{"b=1 a=1 c=1 d=1", "b=1 /3"},
	{"a=1 b=1 b=2 c=1", "a=1 b=1 /3"},
	{"a=1 c=1 b=1 d=1", "a=1 c=1 /3"},
	{"b=1 c=1 a=1 d=1", "b=1 c=1 /3"},
	{"a=1 b=1 c=1 c=1", "a=1 b=1 c=1 /3"},
	{"a=1 b=1 d=1 c=1", "a=1 b=1 d=1 /3"},
	{"b=1 c=1 d=1 a=1", "b=1 c=1 d=1 /3"},
	{"a=1 a=1", "a=1 /3"},
	{"b=1 a=1", "b=1 /3"},
	{"a=1 a!", "a=1 /3"},
	{"b! a=1", "b! /3"},
	{"a! a!", "a! /3"},
	{"aa=1 a=1", "aa=1 /3"},
	{"a=1 B=1", "a=1 /3"},
	{"\xff=1 a=1", "\xff=1 /3"},
	{"=1 =1", "=1 /3"},
	{"=1 ! a=1", "=1 /3"},
	{"a=1 =1 b=1", "a=1 /3"},
	{"a=1 ! b=1", "a=1 /3"},
}

func TestFallenKeys(t *testing.T) {
	for _, test := range fallen {
		list := entries(test.row)
		wantRest(t, "Over of "+test.row, merge.Over(list), test.want)
		wantRest(t, "Live of "+test.row, merge.Live(merge.Over(list)), live(test.want))
		wantRest(t, "Merge of "+test.row, merge.Merge(nil, merge.Over(list)), test.want)
		s, c := from(test.row)
		wantRest(t, "From of "+test.row, c, test.want)
		wantAsked(t, "From of "+test.row, s, len(strings.Fields(test.want)))
		s, c = from(test.row + " /8")
		wantRest(t, "From of "+test.row+" and an error", c, test.want)
		wantAsked(t, "From of "+test.row+" and an error", s, len(strings.Fields(test.want)))
	}
}

// live answers a row's text without the entries that are gone.
func live(row string) string {
	return strings.Join(slices.DeleteFunc(strings.Fields(row), func(s string) bool { return strings.HasSuffix(s, "!") }), " ")
}

// No key is below the empty one, but nothing stands ahead of the first one.
func TestEmptyKeyFirst(t *testing.T) {
	for _, row := range []string{"=1", "!", "= a=1", "! a!"} {
		wantRest(t, "Over", over(row), row)
		wantRest(t, "From", cursor(row), row)
		wantRest(t, "Merge", merge.Merge(over(row), over(row)), row)
	}
}

// empties are cursors that have no entries.
func empties() map[string]*merge.Cursor {
	return map[string]*merge.Cursor{
		"a nil cursor":             nil,
		"From(nil)":                merge.From(nil),
		"Over(nil)":                merge.Over(nil),
		"Merge()":                  merge.Merge(),
		"Merge of an empty list":   merge.Merge([]*merge.Cursor{}...),
		"Merge(nil)":               merge.Merge(nil),
		"Merge(nil, nil)":          merge.Merge(nil, nil),
		"Merge(From(nil), nil)":    merge.Merge(merge.From(nil), nil),
		"Live(nil)":                merge.Live(nil),
		"Live(From(nil))":          merge.Live(merge.From(nil)),
		"Live(Merge())":            merge.Live(merge.Merge()),
		"Merge(Live(nil), Over())": merge.Merge(merge.Live(nil), merge.Over(nil)),
	}
}

func TestEmpties(t *testing.T) {
	for name, c := range empties() {
		wantNext(t, name, c, "end", "end", "end")
		if got := all(merge.All(c)); got != "" {
			t.Errorf("All of %s = %q", name, got)
		}
	}
	for name, c := range empties() {
		if got := all(merge.All(c)); got != "" {
			t.Errorf("All of %s at first = %q", name, got)
		}
		wantNext(t, "Live of "+name, merge.Live(c), "end", "end")
	}
	for _, c := range []*merge.Cursor{merge.From(nil), merge.Over(nil), merge.Merge(), merge.Merge(nil), merge.Live(nil)} {
		if c == nil {
			t.Error("a cursor that is answered is nil")
		}
	}
}

// Who has no entries changes nothing of a merged row, wherever he stands in it.
func TestEmptiesAmongOthers(t *testing.T) {
	for i := range 3 {
		for name, c := range empties() {
			list := slices.Insert([]*merge.Cursor{over("a=1 c=1"), over("a=2 b!")}, i, c)
			wantRest(t, fmt.Sprintf("%s at %d", name, i), merge.Merge(list...), "a=1 b! c=1")
			list = slices.Insert(cursors("a=1 c=1/8", "a=2 b!"), i, c)
			wantRest(t, fmt.Sprintf("%s at %d, an error", name, i), merge.Merge(list...), "a=1 b! c=1 /8")
		}
	}
}

func TestMerge(t *testing.T) {
	tests := []struct {
		name, want string
		rows       []string
	}{
		{"one", "a=1 b! c=3", []string{"a=1 b! c=3"}},
		{"one of none", "", []string{""}},
		{"two of none", "", []string{"", ""}},
		{"no key in common", "a=1 b=2 c=1 d=2", []string{"a=1 c=1", "b=2 d=2"}},
		{"one behind the other", "a=1 b=1 c=2 d=2", []string{"a=1 b=1", "c=2 d=2"}},
		{"one ahead of the other", "a=2 b=2 c=1 d=1", []string{"c=1 d=1", "a=2 b=2"}},
		{"all keys in common", "a=1 b=1 c=1", []string{"a=1 b=1 c=1", "a=2 b=2 c=2"}},
		{"some keys in common", "a=1 b=2 c=1 d=2 e=1", []string{"a=1 c=1 e=1", "b=2 c=2 d=2 e=2"}},
		{"the last key in common", "a=2 b=2 c=1", []string{"c=1", "a=2 b=2 c=2"}},
		{"the first key in common", "a=1 b=2 c=2", []string{"a=1", "a=2 b=2 c=2"}},
		{"a row without entries ahead", "a=2 b=2", []string{"", "a=2 b=2"}},
		{"a row without entries behind", "a=1 b=1", []string{"a=1 b=1", ""}},
		{"gone in the newer one", "a! b!", []string{"a! b!", "a=2 b=2"}},
		{"gone in the elder one", "a=1 b=1", []string{"a=1 b=1", "a! b!"}},
		{"gone in both", "a! b! c!", []string{"a! b!", "a! c!"}},
		{"gone in the midst of three", "a=1 b! c=3", []string{"a=1", "a! b!", "a=3 b=3 c=3"}},
		{"three", "a=1 b=2 c=1 d=3", []string{"a=1 c=1", "b=2 c=2", "a=3 b=3 c=3 d=3"}},
		{"the last one of three has it first", "a=3 b=2 c=1", []string{"c=1", "b=2 c=2", "a=3 b=3 c=3"}},
		{"equal entries", "a=1 b!", []string{"a=1 b!", "a=1 b!", "a=1 b!"}},
		{"the empty key", "=2 a=1 b=2", []string{"a=1", "=2 a=2 b=2", "=3 b=3"}},
		{"keys that begin alike", "a=2 aa=1 ab=2 b=1", []string{"aa=1 b=1", "a=2 ab=2"}},
		{"bytes above 127", "z=2 \x80=1 \xff=2 \xff\xff=1", []string{"\x80=1 \xff\xff=1", "z=2 \xff=2"}},
	}
	for _, test := range tests {
		wantRest(t, test.name, merge.Merge(cursors(test.rows...)...), test.want)
		wantRest(t, test.name+", Live", merge.Live(merge.Merge(cursors(test.rows...)...)), live(test.want))
		if got := all(merge.All(merge.Merge(cursors(test.rows...)...))); got != test.want {
			t.Errorf("%s, All: %q; want %q", test.name, got, test.want)
		}
	}
}

// Many rows, of which each key stands in several: the first one that has it gives it.
func TestMergeOfMany(t *testing.T) {
	const rows, keys = 100, 300
	var list []*merge.Cursor
	want := make([]api.Entry, keys)
	for i := range rows {
		var row []api.Entry
		for k := 0; k < keys; k += rows - i {
			x := api.Entry{Key: fmt.Sprintf("%04d", k), Val: fmt.Sprint(i), Gone: i%5 == 4}
			row = append(row, x)
			if want[k] == (api.Entry{}) {
				want[k] = x
			}
		}
		list = append(list, merge.Over(row))
	}
	c := merge.Merge(list...)
	for _, x := range want {
		if got, ok, e := c.Next(); got != x || !ok || e != api.OK {
			t.Errorf("Next = %v, %t, %d; want %v", got, ok, e, x)
		}
	}
	wantNext(t, "behind many", c, "end", "end", "end")
}

// What is handed in isn't changed, and isn't kept: the list, not the cursors.
func TestMergesList(t *testing.T) {
	a, b, other := over("a=1 c=1"), over("b=2 d=2"), over("a=3 b=3 c=3 d=3 e=3")
	room := []*merge.Cursor{a, nil, b, other, other}
	list := room[:3]
	c := merge.Merge(list...)
	for i, want := range []*merge.Cursor{a, nil, b, other, other} {
		if room[i] != want {
			t.Errorf("Merge has written into its list at %d", i)
		}
	}
	list[0], list[2] = other, nil
	wantNext(t, "a list that was written into", c, "a=1", "b=2")
	list[1] = other
	wantRest(t, "a list that was written into", c, "c=1 d=2")
	for i, want := range []*merge.Cursor{other, other, nil, other, other} {
		if room[i] != want {
			t.Errorf("a merged cursor has written into its list at %d", i)
		}
	}
	wantRest(t, "a cursor that wasn't merged", other, "a=3 b=3 c=3 d=3 e=3")
}

// broke is a merged row that ends with an error, and what it tells.
type broke struct {
	name, want string
	rows       []string
}

// wantBroke wants merged rows to end so, however they are asked.
func wantBroke(t *testing.T, tests []broke) {
	t.Helper()
	for _, test := range tests {
		wantRest(t, test.name, merge.Merge(cursors(test.rows...)...), test.want)
		wantRest(t, test.name+", Live", merge.Live(merge.Merge(cursors(test.rows...)...)), live(test.want))
		if got := all(merge.All(merge.Merge(cursors(test.rows...)...))); got != test.want {
			t.Errorf("%s, All: %q; want %q", test.name, got, test.want)
		}
	}
}

// An error ends the merged row when it comes to the entry that stands behind that place.
func TestErrorOfOne(t *testing.T) {
	wantBroke(t, []broke{
		{"alone", "/8", []string{"/8"}},
		{"alone behind its entries", "a=1 b! /8", []string{"a=1 b!/8"}},
		{"the first one at first", "/8", []string{"/8", "a=2 b=2"}},
		{"the last one at first", "/8", []string{"a=1 b=1", "/8"}},
		{"the midst at first", "/8", []string{"a=1", "/8", "a=3"}},
		{"beside a row of none", "/8", []string{"", "/8", ""}},
		{"the first one behind one", "a=1 /8", []string{"a=1/8", "a=2 b=2"}},
		{"the last one behind one", "a=1 /8", []string{"a=1 b=1", "a=2/8"}},
		{"the last one behind one of its own", "a=1 b=2 /8", []string{"a=1 c=1 d=1", "b=2/8"}},
		{"the first one behind one of its own", "a=2 b=1 /8", []string{"b=1/8", "a=2 c=2 d=2"}},
		{"the first one behind all of the others", "a=1 b=2 c=1 /8", []string{"a=1 c=1/8", "a=2 b=2"}},
		{"the last one behind all of the others", "a=1 b=1 c=2 /8", []string{"a=1 b=1", "a=2 c=2/8"}},
		{"passed over", "a=1 b=1 /8", []string{"a=1 b=1 c=1", "b=2/8"}},
		{"passed over by a row that ends", "a=1 b=1 /8", []string{"a=1 b=1", "a=2 b=2/8"}},
		{"never told from", "a=1 b=1 /8", []string{"a=1 b=1 c=1", "a=2", "a=3 b=3/8"}},
		{"in the midst of three", "a=1 b=2 c=3 d=2 /8", []string{"a=1 f=1", "b=2 d=2/8", "c=3 e=3"}},
		{"where the others have ended", "a=1 b=2 c=2 /8", []string{"a=1", "b=2 c=2/8", ""}},
		{"behind what is gone", "a! b! /8", []string{"a! c!", "a=2 b!/8"}},
		{"a row that doesn't rise", "a=1 b=2 c=1 /3", []string{"a=1 c=1 b=1 d=1", "b=2 d=2"}},
		{"a row that doesn't rise behind", "a=2 b=2 /3", []string{"c=1 e=1", "a=2 b=2 b=3 d=2"}},
		{"an error that has no name", "a=1 /-1", []string{"a=1 b=1", "a=2/-1"}},
	})
}

// Of two errors the one that is come to first is told; where both stand, the one of the first cursor.
func TestErrorOfTwo(t *testing.T) {
	wantBroke(t, []broke{
		{"both at first", "/8", []string{"/8", "/4"}},
		{"both at first, turned", "/4", []string{"/4", "/8"}},
		{"both at first, behind another", "/8", []string{"a=1", "/8", "b=1", "/4"}},
		{"the second one comes first", "/4", []string{"a=1/8", "/4"}},
		{"the first one comes first", "/8", []string{"/8", "a=2/4"}},
		{"both behind one key", "a=1 /8", []string{"a=1/8", "a=2/4"}},
		{"both behind one key, turned", "a=1 /4", []string{"a=1/4", "a=2/8"}},
		{"both behind one key, others go on", "a=1 /8", []string{"a=1 b=1", "a=2/8", "b=3", "a=4/4"}},
		{"both passed over", "a=1 b=1 /8", []string{"a=1 b=1 c=1", "b=2/8", "a=3 b=3/4"}},
		{"the second one a key ahead", "a=1 b=2 /4", []string{"a=1 c=1/8", "b=2/4"}},
		{"the first one a key ahead", "a=1 b=1 /8", []string{"a=1 b=1/8", "c=2/4"}},
		{"one that doesn't rise, and an error", "a=1 b=1 /3", []string{"a=1 b=1 b=2", "b=2/4"}},
		{"an error, and one that doesn't rise", "a=1 b=1 /4", []string{"a=1 b=1/4", "b=2 a=2"}},
		{"three", "a=1 b=2 /12", []string{"a=1 c=1/8", "b=2/12", "b=3/4"}},
	})
}

// Behind an error each Next tells it, whatever the cursors have told since.
func TestErrorStays(t *testing.T) {
	a, b, d := cursor("a=1 c=1/4"), cursor("b=2/8"), over("d=3")
	c := merge.Merge(a, b, d)
	wantNext(t, "the merged row", c, "a=1", "b=2", "/8", "/8")
	wantNext(t, "the first one", a, "c=1", "/4")
	wantNext(t, "the merged row behind another error", c, "/8")
	wantNext(t, "the last one", d, "d=3", "end")
	wantNext(t, "the merged row behind all of them", c, "/8", "/8", "/8")
}

// The merged row asks as it is asked: each cursor once at first, then those that were told from or passed over.
func TestMergeAsksAsNeeded(t *testing.T) {
	rows := []string{"a=1 c=1 e=1", "b=2 c=2", "a=3 c! d=3"}
	var sources []*source
	var list []*merge.Cursor
	for _, row := range rows {
		s, c := from(row)
		sources, list = append(sources, s), append(list, c)
	}
	c := merge.Merge(list...)
	row := merge.All(c)
	for i, step := range []struct {
		told  string
		asked [3]int // behind that
	}{
		{"", [3]int{0, 0, 0}},
		{"a=1", [3]int{1, 1, 1}},
		{"b=2", [3]int{2, 1, 2}},
		{"c=1", [3]int{2, 2, 2}},
		{"d=3", [3]int{3, 3, 3}},
		{"e=1", [3]int{3, 3, 4}},
		{"end", [3]int{4, 3, 4}},
		{"end", [3]int{4, 3, 4}},
	} {
		if step.told != "" {
			wantNext(t, "the merged row", c, step.told)
		}
		for j, s := range sources {
			wantAsked(t, fmt.Sprintf("row %d at step %d", j, i), s, step.asked[j])
		}
	}
	if got := all(row); got != "" {
		t.Errorf("All behind the end = %q", got)
	}
}

// What the merged row told, or passed over, isn't told by the cursors any more; they tell what it didn't come to.
func TestWhatIsLeft(t *testing.T) {
	const first, second, third = "a=1 c=1 e=1", "b=2 c=2 d=2", "c=3 f=3/8"
	for n, want := range [][3]string{
		{"a=1 c=1 e=1", "b=2 c=2 d=2", "c=3 f=3 /8"},
		{"c=1 e=1", "b=2 c=2 d=2", "c=3 f=3 /8"},
		{"c=1 e=1", "c=2 d=2", "c=3 f=3 /8"},
		{"e=1", "d=2", "f=3 /8"},
		{"e=1", "", "f=3 /8"},
		{"", "", "f=3 /8"},
		{"", "", "/8"},
		{"", "", "/8"},
	} {
		list := cursors(first, second, third)
		c := merge.Merge(list...)
		for range n {
			c.Next()
		}
		for i, left := range list {
			wantRest(t, fmt.Sprintf("row %d behind %d", i, n), left, want[i])
		}
	}
}

// What a cursor has told itself the merged row doesn't tell any more, and goes on with what is left.
func TestCursorsTellToo(t *testing.T) {
	a, b := over("a=1 c=1 d=1 g=1"), over("b=2 d=2 e=2 f=2")
	c := merge.Merge(a, b)
	wantNext(t, "the merged row", c, "a=1")
	wantNext(t, "the second one", b, "b=2")
	wantNext(t, "the first one", a, "c=1", "d=1")
	wantNext(t, "the merged row", c, "d=2", "e=2")
	wantNext(t, "the second one", b, "f=2", "end")
	wantNext(t, "the merged row", c, "g=1", "end", "end")
	wantNext(t, "the first one", a, "end")
}

// A cursor that is merged with itself is its row.
func TestMergedWithItself(t *testing.T) {
	c := cursor("a=1 b! c=1/8")
	wantRest(t, "twice", merge.Merge(c, c), "a=1 b! c=1 /8")
	c = over("a=1 b=1 c=1")
	wantRest(t, "in a merged row and beside it", merge.Merge(merge.Merge(c, over("b=2 d=2")), c), "a=1 b=1 c=1 d=2")
}

// What was looked at through merged rows and through Live, but not told, is told by the cursors below.
func TestLookedAtBelow(t *testing.T) {
	a, b, other := over("b=1 d=1"), over("b=2 c=2"), over("a=3 e=3")
	part := merge.Merge(a, b)
	c := merge.Live(merge.Merge(other, merge.Live(part)))
	wantNext(t, "the whole", c, "a=3")
	wantNext(t, "the first one", a, "b=1")
	wantNext(t, "the whole", c, "b=2")
	wantNext(t, "the part", part, "c=2")
	wantNext(t, "the whole", c, "d=1")
	wantRest(t, "the first one", a, "")
	wantRest(t, "the second one", b, "")
	wantRest(t, "another one", other, "e=3")
	wantRest(t, "the whole", c, "")
}

func TestLive(t *testing.T) {
	for _, row := range []string{
		"", "a=1", "a=", "a=1 b= c=3", // none are gone
		"a!", "a! b! c!", // all are
		"a! b=1", "a=1 b!", "a=1 b! c=1", "a! b! c=1 d! e! f=1 g! h!", "! a=1", "= a! b=",
	} {
		wantRest(t, "Live of "+row, merge.Live(over(row)), live(row))
		wantRest(t, "Live of Live of "+row, merge.Live(merge.Live(over(row))), live(row))
		if got := all(merge.All(merge.Live(over(row)))); got != live(row) {
			t.Errorf("All of Live of %s = %q", row, got)
		}
		wantRest(t, "Live of "+row+" and an error", merge.Live(cursor(row+" /8")), strings.TrimSpace(live(row)+" /8"))
	}
	x := api.Entry{Key: "b", Val: "a value that nobody has", Gone: true}
	wantRest(t, "gone with a value", merge.Live(merge.Over([]api.Entry{entry("a=1"), x, entry("c=1")})), "a=1 c=1")
	if got, ok, e := merge.Over([]api.Entry{x}).Next(); got != x || !ok || e != api.OK {
		t.Errorf("gone with a value: %v, %t, %d", got, ok, e)
	}
}

// A key that is gone in a newer row stays hidden in the elder one; where the gone ones are left out ahead of that, it doesn't.
func TestLiveAheadAndBehind(t *testing.T) {
	wantRest(t, "Live of Merge", merge.Live(merge.Merge(over("a! c=1"), over("a=2 b=2"))), "b=2 c=1")
	wantRest(t, "Merge of Live", merge.Merge(merge.Live(over("a! c=1")), over("a=2 b=2")), "a=2 b=2 c=1")
}

// Live asks no more than it needs: up to the first entry that isn't gone.
func TestLiveAsksAsNeeded(t *testing.T) {
	s, below := from("a! b=1 c! d! e=1 f!/8")
	c := merge.Live(below)
	wantAsked(t, "at first", s, 0)
	for _, step := range []struct {
		told  string
		asked int
	}{{"b=1", 2}, {"e=1", 5}, {"/8", 7}, {"/8", 7}} {
		wantNext(t, "Live", c, step.told)
		wantAsked(t, "behind "+step.told, s, step.asked)
	}
	below = over("a! b=1 c=1 d!")
	wantNext(t, "Live", merge.Live(below), "b=1")
	wantRest(t, "what Live left", below, "c=1 d!")
}

func TestAll(t *testing.T) {
	for _, row := range []string{"", "a=1", "a=1 b! c=", "/8", "a=1 /8", "a! b=1 /12"} {
		c := cursor(row)
		if got := all(merge.All(c)); got != row {
			t.Errorf("All of %q = %q", row, got)
		}
		end := "end"
		if i := strings.IndexByte(row, '/'); i >= 0 {
			end = row[i:]
		}
		wantNext(t, "behind All of "+row, c, end, end)
		// Nothing is left but the error, which each Next tells.
		if got := all(merge.All(c)); got != strings.TrimPrefix(end, "end") {
			t.Errorf("All behind All of %q = %q", row, got)
		}
	}
	c := over("a=1 b=1 c=1 d=1")
	wantNext(t, "begun with Next", c, "a=1", "b=1")
	if got := all(merge.All(c)); got != "c=1 d=1" {
		t.Errorf("All of what was begun with Next = %q", got)
	}
}

// All that is left in the middle leaves the entries that it didn't tell, and asks for none of them.
func TestAllThatIsLeft(t *testing.T) {
	const told = "a=1 b! c=1 d=1/8"
	rest := []string{"a=1", "b!", "c=1", "d=1", "/8"}
	for n := range rest {
		for _, again := range []bool{false, true} {
			s, c := from(told)
			row := merge.All(c)
			wantAsked(t, "ahead of a range", s, 0)
			at := 0
			for x, e := range row {
				if got := text(x, e == api.OK, e); got != rest[at] {
					t.Errorf("All tells %s; want %s", got, rest[at])
				}
				if at++; at > n {
					break
				}
			}
			wantAsked(t, "a range that was left", s, n+1)
			if !again {
				wantNext(t, "what is left", c, append(rest[min(n+1, 4):], "/8")...)
				continue
			}
			want := strings.Join(rest[min(n+1, 4):], " ")
			if got := all(row); got != want {
				t.Errorf("ranged over again behind %d: %q; want %q", n+1, got, want)
			}
		}
	}
	c := over("a=1 b=1")
	for range merge.All(c) {
		break
	}
	wantNext(t, "what is left", c, "b=1", "end")
}

// Who leaves a range isn't called any more: not for the error that stands next, nor behind the error itself.
func TestAllCallsNoMore(t *testing.T) {
	for n, row := range []string{"a=1/8", "/8"} {
		calls := 0
		merge.All(cursor(row))(func(x api.Entry, e api.Errno) bool {
			calls++
			return false
		})
		if calls != 1 {
			t.Errorf("row %d: called %d times; want once", n, calls)
		}
	}
}

// A cursor may be asked while it is ranged over: the range goes on behind what was told.
func TestNextWithinAll(t *testing.T) {
	c := over("a=1 b=1 c=1 d=1 e=1")
	var told []string
	for x := range merge.All(c) {
		told = append(told, x.Key)
		c.Next()
	}
	if got := strings.Join(told, " "); got != "a c e" {
		t.Errorf("told %q; want a c e", got)
	}
}

// Two cursors that are asked by turns don't know of each other.
func TestByTurns(t *testing.T) {
	a, b := merge.Merge(over("a=1 c=1"), over("b=2")), merge.Merge(over("b=3"), cursor("a=4 c=4/8"))
	for _, want := range [][2]string{{"a=1", "a=4"}, {"b=2", "b=3"}, {"c=1", "c=4"}, {"end", "/8"}, {"end", "/8"}} {
		wantNext(t, "the first", a, want[0])
		wantNext(t, "the second", b, want[1])
	}
}
