package merge_test

import (
	"fmt"
	"math/rand/v2"
	"slices"
	"strings"
	"testing"

	"silo/api"
	"silo/merge"
)

// row is entries, and why they end.
type row struct {
	list []api.Entry
	e    api.Errno
}

// text tells a row.
func (r row) text() string {
	var told []string
	for _, x := range r.list {
		told = append(told, text(x, true, api.OK))
	}
	if r.e != api.OK {
		told = append(told, fmt.Sprint("/", int(r.e)))
	}
	return strings.Join(told, " ")
}

// risen answers the row up to the first entry whose key isn't above the one ahead.
func (r row) risen() row {
	for i := range r.list {
		if i > 0 && r.list[i-1].Key >= r.list[i].Key {
			return row{list: r.list[:i], e: api.ErrForm}
		}
	}
	return r
}

// upTo answers how many entries of a rising row have a key that isn't above this one.
func (r row) upTo(key string) int {
	n := 0
	for _, x := range r.list {
		if x.Key <= key {
			n++
		}
	}
	return n
}

// live answers the row without the entries that are gone.
func (r row) live() row {
	return row{list: slices.DeleteFunc(slices.Clone(r.list), func(x api.Entry) bool { return x.Gone }), e: r.e}
}

// paperMerge is another working-out of the merged row of rising rows: not entry by entry, but from the places at which rows end with errors, and from the set of all keys ahead of them.
func paperMerge(rows []row) row {
	var merged row
	last := "" // of the row that ends first with an error
	none := false
	for _, r := range rows {
		if r.e == api.OK || none {
			continue
		}
		if len(r.list) == 0 {
			merged.e, none = r.e, true
			continue
		}
		if key := r.list[len(r.list)-1].Key; merged.e == api.OK || key < last {
			merged.e, last = r.e, key
		}
	}
	if none {
		return merged
	}
	first := map[string]api.Entry{}
	for _, r := range slices.Backward(rows) {
		for _, x := range r.list {
			first[x.Key] = x
		}
	}
	for key, x := range first {
		if merged.e == api.OK || key <= last {
			merged.list = append(merged.list, x)
		}
	}
	slices.SortFunc(merged.list, func(x, y api.Entry) int { return strings.Compare(x.Key, y.Key) })
	return merged
}

// fallenOf answers what the rows tell: each up to its first key that doesn't rise.
func fallenOf(rows []row) []row {
	var list []row
	for _, r := range rows {
		list = append(list, r.risen())
	}
	return list
}

// laid are cursors over rows, and the sources below them.
type laid struct {
	cursors []*merge.Cursor
	sources []*source
}

// lay answers cursors over the rows.
func lay(rows []row) laid {
	var l laid
	for _, r := range rows {
		s := &source{list: r.list, e: r.e}
		l.sources = append(l.sources, s)
		l.cursors = append(l.cursors, merge.From(s.next))
	}
	return l
}

// shape is a way in which cursors are merged in parts, side by side.
type shape struct {
	name  string
	merge func(list []*merge.Cursor) *merge.Cursor
}

// part answers a merged part of the cursors.
func part(list []*merge.Cursor) *merge.Cursor { return merge.Merge(list...) }

// shapes answers the ways in which so many cursors can be merged: at once, in two parts, in three, one by one from the first one on, and from the last one on.
func shapes(n int) []shape {
	list := []shape{
		{"at once", part},
		{"from the first one on", func(list []*merge.Cursor) *merge.Cursor {
			c := merge.Merge()
			for _, next := range list {
				c = merge.Merge(c, next)
			}
			return c
		}},
		{"from the last one on", func(list []*merge.Cursor) *merge.Cursor {
			c := merge.Merge()
			for _, next := range slices.Backward(list) {
				c = merge.Merge(next, c)
			}
			return c
		}},
	}
	for i := range n + 1 {
		list = append(list, shape{fmt.Sprint("in parts up to ", i), func(list []*merge.Cursor) *merge.Cursor {
			return merge.Merge(part(list[:i]), part(list[i:]))
		}})
		for j := i; j <= n; j++ {
			list = append(list, shape{fmt.Sprint("in parts up to ", i, " and ", j), func(list []*merge.Cursor) *merge.Cursor {
				return merge.Merge(part(list[:i]), part(list[i:j]), part(list[j:]))
			}})
		}
	}
	return list
}

// drawRow draws a row of some of so many keys: it may end with an error, and may not rise.
func drawRow(r *rand.Rand, name, keys int) row {
	var x row
	most := r.IntN(keys + 1)
	for k := range keys {
		if r.IntN(keys) < most {
			x.list = append(x.list, api.Entry{Key: key(k), Val: fmt.Sprint(name)})
		}
	}
	for i := range x.list {
		if r.IntN(4) == 0 {
			x.list[i].Val, x.list[i].Gone = "", true
		}
	}
	if n := len(x.list); n > 1 && r.IntN(12) == 0 {
		i, j := r.IntN(n), r.IntN(n)
		x.list[i].Key = x.list[j].Key
	}
	if r.IntN(5) == 0 {
		x.e = api.Errno(1 + r.IntN(15))
	}
	return x
}

// key answers the key with this number, which rises with it; the first one is empty.
func key(n int) string { return strings.Repeat("k", n/3) + []string{"", "a", "b"}[n%3] }

// drawRows draws so many rows.
func drawRows(r *rand.Rand, rows, keys int) []row {
	var list []row
	for i := range rows {
		list = append(list, drawRow(r, i, keys))
	}
	return list
}

// allRows answers all rows of these keys, each there, gone or missing, with each of the errors.
func allRows(name int, keys []string, errors []api.Errno) []row {
	rows := []row{{}}
	for _, key := range keys {
		for _, r := range rows {
			for _, x := range []api.Entry{{Key: key, Val: fmt.Sprint(name)}, {Key: key, Gone: true}} {
				rows = append(rows, row{list: append(slices.Clone(r.list), x)})
			}
		}
	}
	var list []row
	for _, r := range rows {
		for _, e := range errors {
			list = append(list, row{list: r.list, e: e})
		}
	}
	return list
}

// wantShapes wants the rows, merged at once and in parts, to be this.
func wantShapes(t *testing.T, rows []row, list []shape) {
	t.Helper()
	want := paperMerge(fallenOf(rows))
	for _, s := range list {
		name := fmt.Sprintf("%v %s", rows, s.name)
		wantRest(t, name, s.merge(lay(rows).cursors), want.text())
		wantRest(t, name+", Live", merge.Live(s.merge(lay(rows).cursors)), want.live().text())
	}
}

// All pairs of rows of three keys, and all threes of rows of two.
func TestAllSmallRows(t *testing.T) {
	list := shapes(2)
	for _, x := range allRows(0, []string{"", "a", "b"}, []api.Errno{api.OK, api.ErrSum}) {
		for _, y := range allRows(1, []string{"", "a", "b"}, []api.Errno{api.OK, api.ErrDown}) {
			wantShapes(t, []row{x, y}, list[:3])
		}
	}
	list = shapes(3)
	third := allRows(2, []string{"a", "b"}, []api.Errno{api.OK, api.ErrCorrupt})
	for _, x := range allRows(0, []string{"a", "b"}, []api.Errno{api.OK, api.ErrSum}) {
		for _, y := range allRows(1, []string{"a", "b"}, []api.Errno{api.OK, api.ErrDown}) {
			for _, z := range third {
				wantShapes(t, []row{x, y, z}, list[:3])
			}
		}
	}
}

// Rows that are drawn, errors and keys that don't rise among them, merged at once and in all parts.
func TestRandomRows(t *testing.T) {
	r := rand.New(rand.NewPCG(10, 1))
	for range 1500 {
		rows := drawRows(r, r.IntN(7), 1+r.IntN(12))
		wantShapes(t, rows, shapes(len(rows)))
		var alive []row
		var cursors []*merge.Cursor
		for i, c := range lay(rows).cursors {
			alive = append(alive, rows[i].risen().live())
			cursors = append(cursors, merge.Live(c))
		}
		wantRest(t, fmt.Sprint("Merge of Live of ", rows), merge.Merge(cursors...), paperMerge(alive).text())
	}
}

// Long rows, of many keys.
func TestRandomLongRows(t *testing.T) {
	r := rand.New(rand.NewPCG(10, 2))
	for i := range 20 {
		rows := drawRows(r, 8+r.IntN(8), 200)
		for j := range rows {
			// An error ends the whole soon: most of these have none.
			if i%4 != 0 {
				rows[j] = rows[j].risen()
				rows[j].e = api.OK
			}
		}
		list := shapes(len(rows))
		wantShapes(t, rows, append(list[:3:3], list[3+r.IntN(len(list)-3)]))
	}
}

// wantLeft wants the cursors to have what the merged row didn't come to, behind so many Nexts, and their sources to have been asked for just what was needed.
func wantLeft(t *testing.T, name string, l laid, rows []row, merged row, nexts int) {
	t.Helper()
	told := merged.list[:min(nexts, len(merged.list))]
	ahead := merged.list[:max(min(nexts-1, len(merged.list)), 0)] // what was told ahead of the last look
	stopped := nexts > len(merged.list) && merged.e != api.OK
	for i, r := range rows {
		asked, left := 0, r
		if len(ahead) > 0 {
			asked = r.upTo(ahead[len(ahead)-1].Key)
		}
		if nexts > 0 && !(stopped && l.sources[i].asked == asked) {
			asked++ // behind the error that is told it isn't promised whether others are looked at
		}
		wantAsked(t, fmt.Sprintf("%s, row %d", name, i), l.sources[i], asked)
		if len(told) > 0 {
			left.list = r.list[r.upTo(told[len(told)-1].Key):]
		}
		wantRest(t, fmt.Sprintf("%s, what is left of row %d", name, i), l.cursors[i], left.text())
	}
}

// What merged rows that are drawn leave with their cursors, behind any number of Nexts.
func TestRandomLeft(t *testing.T) {
	r := rand.New(rand.NewPCG(10, 3))
	for range 400 {
		rows := drawRows(r, r.IntN(6), 1+r.IntN(9))
		fallen := fallenOf(rows)
		want := paperMerge(fallen)
		list := shapes(len(rows))
		for nexts := range len(want.list) + 3 {
			s := list[r.IntN(len(list))]
			l := lay(rows)
			c := s.merge(l.cursors)
			for range nexts {
				c.Next()
			}
			wantLeft(t, fmt.Sprintf("%v %s behind %d", rows, s.name, nexts), l, fallen, want, nexts)
		}
	}
}

// A merged row and its cursors, asked by turns that are drawn: each tells the least of what nobody has told.
func TestRandomTurns(t *testing.T) {
	r := rand.New(rand.NewPCG(10, 4))
	for range 2000 {
		rows := drawRows(r, r.IntN(6), 1+r.IntN(9))
		list := shapes(len(rows))
		s := list[r.IntN(len(list))]
		l := lay(rows)
		c := s.merge(l.cursors)
		name := fmt.Sprintf("%v %s", rows, s.name)
		left := fallenOf(rows)
		ended := ""
		for step := range 40 {
			if i := r.IntN(2*len(rows) + 2); i < len(rows) {
				wantNext(t, fmt.Sprintf("%s, row %d at step %d", name, i, step), l.cursors[i], first(left[i]))
				left[i].list = left[i].list[min(1, len(left[i].list)):]
				continue
			}
			want := paperMerge(left)
			if ended == "" && len(want.list) == 0 {
				ended = first(want)
			}
			if ended != "" {
				wantNext(t, fmt.Sprintf("%s, at step %d", name, step), c, ended)
				continue
			}
			wantNext(t, fmt.Sprintf("%s, at step %d", name, step), c, first(want))
			for i := range left {
				left[i].list = left[i].list[left[i].upTo(want.list[0].Key):]
			}
		}
	}
}

// first tells what comes next of a row.
func first(r row) string {
	switch {
	case len(r.list) > 0:
		return text(r.list[0], true, api.OK)
	case r.e != api.OK:
		return fmt.Sprint("/", int(r.e))
	}
	return "end"
}
