package manifest_test

import (
	"fmt"
	"math"
	"slices"
	"strings"
	"testing"

	"silo/api"
	"silo/disk"
	"silo/manifest"
	"silo/wal"
)

func addTable(file, level, count int, low, high string) api.Edit {
	return api.Edit{Kind: api.AddTable, File: file, Level: level, Count: count, Low: low, High: high}
}

func addStore(file, tier int) api.Edit {
	return api.Edit{Kind: api.AddStore, File: file, Level: tier}
}

func addLog(file int) api.Edit    { return api.Edit{Kind: api.AddLog, File: file} }
func dropTable(file int) api.Edit { return api.Edit{Kind: api.DropTable, File: file} }
func dropStore(file int) api.Edit { return api.Edit{Kind: api.DropStore, File: file} }
func dropLog(file int) api.Edit   { return api.Edit{Kind: api.DropLog, File: file} }
func setNext(next int) api.Edit   { return api.Edit{Kind: api.SetNext, File: next} }

// long answers a text of so many bytes.
func long(n int) string { return strings.Repeat("m", n) }

// alike tells whether two states are, be their empty lists nil or not.
func alike(a, b api.State) bool {
	return slices.Equal(a.Tables, b.Tables) && slices.Equal(a.Stores, b.Stores) && slices.Equal(a.Logs, b.Logs) && a.Next == b.Next
}

// wantOK wants a call to have gone well.
func wantOK(t *testing.T, name string, e api.Errno) {
	t.Helper()
	if e != api.OK {
		t.Fatalf("%s = %d", name, e)
	}
}

// wantError wants a call to have answered this error.
func wantError(t *testing.T, name string, e, want api.Errno) {
	t.Helper()
	if e != want {
		t.Errorf("%s = %d; want %d", name, e, want)
	}
}

// wantState wants a state to be this one.
func wantState(t *testing.T, name string, got, want api.State) {
	t.Helper()
	if !alike(got, want) {
		t.Errorf("%s: %+v; want %+v", name, got, want)
	}
}

// applied answers the state behind the edits, which have no error.
func applied(t *testing.T, s api.State, edits ...api.Edit) api.State {
	t.Helper()
	made, e := manifest.Apply(s, edits...)
	if e != api.OK {
		t.Fatalf("Apply(%+v, %+v) = %d", s, edits, e)
	}
	return made
}

// wantRefused wants Apply to answer an error, with nothing beside it, and the state that was handed in to stay.
func wantRefused(t *testing.T, name string, s api.State, want api.Errno, edits ...api.Edit) {
	t.Helper()
	before := fmt.Sprintf("%#v", s)
	made, e := manifest.Apply(s, edits...)
	if e != want || !alike(made, api.State{}) {
		t.Errorf("%s: Apply = %+v, %d; want nothing, %d", name, made, e, want)
	}
	if behind := fmt.Sprintf("%#v", s); behind != before {
		t.Errorf("%s: the state was %s, is %s", name, before, behind)
	}
}

// wantLoad wants Load to tell this state.
func wantLoad(t *testing.T, name string, d *disk.Disk, want api.State) {
	t.Helper()
	got, e := manifest.Load(d)
	if e != api.OK || !alike(got, want) {
		t.Errorf("%s: Load = %+v, %d; want %+v", name, got, e, want)
	}
}

// wantNoLoad wants Load to answer an error, with nothing beside it.
func wantNoLoad(t *testing.T, name string, d *disk.Disk, want api.Errno) {
	t.Helper()
	if got, e := manifest.Load(d); e != want || !alike(got, api.State{}) {
		t.Errorf("%s: Load = %+v, %d; want nothing, %d", name, got, e, want)
	}
}

// newDisk answers a disk with so many blocks of the tier Hot.
func newDisk(t *testing.T, hot int) *disk.Disk {
	t.Helper()
	d, e := disk.New(hot, 5)
	if e != api.OK {
		t.Fatalf("New(%d, 5) = %d", hot, e)
	}
	return d
}

// begun answers a book of the state in the file 1 of a new disk.
func begun(t *testing.T, s api.State) (*disk.Disk, *manifest.Book) {
	t.Helper()
	d := newDisk(t, 1000)
	b, e := manifest.Begin(d, 1, s)
	if e != api.OK {
		t.Fatalf("Begin = %d", e)
	}
	return d, b
}

// pointed answers such a book that is the disk's.
func pointed(t *testing.T, s api.State) (*disk.Disk, *manifest.Book) {
	t.Helper()
	d, b := begun(t, s)
	wantOK(t, "Lay", b.Lay())
	wantOK(t, "Sync", b.Sync())
	wantOK(t, "Point", b.Point())
	return d, b
}

// laid answers a disk whose root is a log of these records.
func laid(t *testing.T, records ...string) *disk.Disk {
	t.Helper()
	d := newDisk(t, api.MaxBlocks)
	l, e := wal.Begin(d, api.Hot, 1)
	wantOK(t, "Begin", e)
	for _, record := range records {
		wantOK(t, "Add", l.Add(record))
	}
	wantOK(t, "Write", l.Write())
	wantOK(t, "Sync", l.Sync())
	wantOK(t, "Point", d.Point(1))
	return d
}

// several is a state that has some of everything.
func several(t *testing.T) api.State {
	t.Helper()
	return applied(t, api.State{},
		setNext(40),
		addLog(7), addLog(3), addLog(30),
		addStore(9, 1), addStore(2, 0), addStore(31, 1),
		addTable(4, 0, 5, "a", "z"), addTable(6, 0, 1, "a", "a"), addTable(1, 0, 2, "b", "c"),
		addTable(12, 1, 9, "m", "p"), addTable(20, 1, 3, "a", "c"), addTable(11, 1, 4, "d", "lz"),
		addTable(5, 3, 1, "", ""), addTable(8, 5, 1<<40, "a", "\xff"))
}

// The chapter's first example, byte by byte.
func TestExampleOfPack(t *testing.T) {
	edits := []api.Edit{addLog(2), setNext(3)}
	wantState(t, "Apply", applied(t, api.State{}, edits...), api.State{Logs: []int{2}, Next: 3})
	want := string([]byte{0x42, 0x45, 0x42, 0x47, 0x43})
	if s := manifest.Pack(edits); s != want {
		t.Errorf("Pack = %x; want %x", s, want)
	}
}

// The chapter's second example.
func TestExampleOfApply(t *testing.T) {
	s := applied(t, api.State{}, addTable(5, 1, 1, "a", "c"))
	wantRefused(t, "a second one at level 1", s, api.ErrState, addTable(6, 1, 1, "c", "d"))
	wantState(t, "a second one at level 0", applied(t, s, addTable(6, 0, 1, "c", "d")), api.State{Tables: []api.Table{
		{File: 6, Count: 1, Low: "c", High: "d"},
		{File: 5, Level: 1, Count: 1, Low: "a", High: "c"},
	}})
}

// P13.1: of no edits the state is as it was, in memory of its own.
func TestApplyOfNone(t *testing.T) {
	wantState(t, "the zero state", applied(t, api.State{}), api.State{})
	s := several(t)
	same := applied(t, s)
	wantState(t, "several", same, s)
	same.Tables[0].File, same.Stores[0].File, same.Logs[0] = 77, 77, 77
	wantState(t, "the state behind the writing into an answer", s, several(t))
}

// P13.1: each kind alone, on the zero state and on another one.
func TestApplyOfOne(t *testing.T) {
	some := several(t)
	for _, x := range []struct {
		edit api.Edit
		want api.State
	}{
		{addTable(1, 0, 1, "", ""), api.State{Tables: []api.Table{{File: 1, Count: 1}}}},
		{addTable(math.MaxInt, 5, math.MaxInt, "a", "b"), api.State{Tables: []api.Table{{File: math.MaxInt, Level: 5, Count: math.MaxInt, Low: "a", High: "b"}}}},
		{addTable(2, 1, 1, "a", "a"), api.State{Tables: []api.Table{{File: 2, Level: 1, Count: 1, Low: "a", High: "a"}}}},
		{addStore(1, 0), api.State{Stores: []api.Store{{File: 1}}}},
		{addStore(math.MaxInt, 1), api.State{Stores: []api.Store{{File: math.MaxInt, Tier: 1}}}},
		{addLog(1), api.State{Logs: []int{1}}},
		{addLog(math.MaxInt), api.State{Logs: []int{math.MaxInt}}},
		{setNext(1), api.State{Next: 1}},
		{setNext(math.MaxInt), api.State{Next: math.MaxInt}},
	} {
		wantState(t, fmt.Sprintf("%+v", x.edit), applied(t, api.State{}, x.edit), x.want)
	}
	more := applied(t, some, addStore(10, 0))
	wantState(t, "Stores", api.State{Stores: more.Stores}, api.State{Stores: []api.Store{{File: 2}, {File: 9, Tier: 1}, {File: 10}, {File: 31, Tier: 1}}})
	more.Stores = some.Stores
	wantState(t, "all else", more, some)
	wantState(t, "Next again", applied(t, some, setNext(40)), some)
	next := applied(t, some, setNext(41))
	if next.Next != 41 {
		t.Errorf("Next = %d", next.Next)
	}
	next.Next = 40
	wantState(t, "all but Next", next, some)
}

// P13.1: what AddTable refuses, and where two errors apply the first one of them.
func TestAddTableRefused(t *testing.T) {
	s := several(t)
	for _, x := range []struct {
		name string
		edit api.Edit
		want api.Errno
	}{
		{"a file 0", addTable(0, 1, 1, "q", "r"), api.ErrArg},
		{"a file below 0", addTable(-1, 1, 1, "q", "r"), api.ErrArg},
		{"the least file", addTable(math.MinInt, 1, 1, "q", "r"), api.ErrArg},
		{"a level below 0", addTable(50, -1, 1, "q", "r"), api.ErrArg},
		{"a level 6", addTable(50, 6, 1, "q", "r"), api.ErrArg},
		{"the least level", addTable(50, math.MinInt, 1, "q", "r"), api.ErrArg},
		{"the greatest level", addTable(50, math.MaxInt, 1, "q", "r"), api.ErrArg},
		{"no entries", addTable(50, 1, 0, "q", "r"), api.ErrArg},
		{"entries below 0", addTable(50, 1, -1, "q", "r"), api.ErrArg},
		{"the least count", addTable(50, 1, math.MinInt, "q", "r"), api.ErrArg},
		{"Low above High", addTable(50, 1, 1, "r", "q"), api.ErrArg},
		{"Low just above High", addTable(50, 1, 1, "q\x00", "q"), api.ErrArg},
		{"Low above High in level 0", addTable(50, 0, 1, "b", "a"), api.ErrArg},
		{"a table's file", addTable(12, 1, 1, "q", "r"), api.ErrThere},
		{"a table's file in another level", addTable(12, 0, 1, "q", "r"), api.ErrThere},
		{"a store's file", addTable(9, 1, 1, "q", "r"), api.ErrThere},
		{"a log's file", addTable(30, 1, 1, "q", "r"), api.ErrThere},
		{"keys of another table", addTable(50, 1, 1, "n", "n"), api.ErrState},
		{"a file 0, keys of another table", addTable(0, 1, 1, "n", "n"), api.ErrArg},
		{"a table's file, a level 6", addTable(12, 6, 1, "q", "r"), api.ErrArg},
		{"a store's file, no entries", addTable(9, 1, 0, "q", "r"), api.ErrArg},
		{"a log's file, Low above High", addTable(30, 1, 1, "r", "q"), api.ErrArg},
		{"keys of another table, no entries", addTable(50, 1, 0, "n", "n"), api.ErrArg},
		{"Low above High about another table", addTable(50, 1, 1, "q", "n"), api.ErrArg},
		{"a table's file, keys of another table", addTable(20, 1, 1, "n", "n"), api.ErrThere},
		{"a table again", addTable(12, 1, 9, "m", "p"), api.ErrThere},
		{"a store's file, keys of another table", addTable(2, 1, 1, "n", "n"), api.ErrThere},
		{"a log's file, keys of another table", addTable(3, 1, 1, "n", "n"), api.ErrThere},
	} {
		wantRefused(t, x.name, s, x.want, x.edit)
	}
}

// P13.1: keys of tables of one level above 0 that meet at an end, lie within one another, or lie apart, wherever these tables stand.
func TestTablesThatMeet(t *testing.T) {
	spans := []struct{ low, high string }{{"d", "f"}, {"h", "h"}, {"k", "p"}, {"t", "v"}}
	for level := range api.MaxLevels {
		s := api.State{}
		for i, x := range spans {
			s = applied(t, s, addTable(10+i, level, 1, x.low, x.high))
		}
		for _, x := range []struct {
			low, high string
			meet      bool
		}{
			{"a", "c", false}, {"a", "c\xff", false}, {"", "", false}, {"a", "d", true}, {"a", "e", true}, {"a", "f", true}, {"a", "g", true},
			{"d", "d", true}, {"d", "e", true}, {"d", "f", true}, {"e", "e", true}, {"f", "f", true}, {"f", "g", true}, {"e", "g", true},
			{"f\x00", "g", false}, {"g", "g", false}, {"f\x00", "gzz", false}, {"g", "h", true}, {"h", "h", true}, {"g", "i", true}, {"g", "j", true},
			{"h\x00", "j", false}, {"i", "k", true}, {"j", "q", true}, {"l", "m", true}, {"k", "k", true}, {"p", "p", true}, {"p", "q", true},
			{"p\x00", "s", false}, {"q", "r", false}, {"q", "t", true}, {"u", "z", true}, {"v", "w", true}, {"v\x00", "w", false}, {"w", "z", false},
			{"", "\xff", true}, {"g", "w", true}, {"a", "l", true}, {"i", "w", true}, {"f\x00", "s", true},
		} {
			name := fmt.Sprintf("level %d, %q to %q", level, x.low, x.high)
			edit := addTable(1, level, 1, x.low, x.high)
			if level > 0 && x.meet {
				wantRefused(t, name, s, api.ErrState, edit)
			} else if got := applied(t, s, edit); len(got.Tables) != 5 {
				t.Errorf("%s: %+v", name, got)
			}
			for other := range api.MaxLevels {
				if other != level {
					applied(t, s, addTable(1, other, 1, x.low, x.high))
				}
			}
		}
	}
}

// P13.1: levels rise; in level 0 files fall, whatever their keys are, in others Low rises, whatever the files are.
func TestOrderOfTables(t *testing.T) {
	edits := []api.Edit{
		addTable(5, 2, 1, "m", "n"), addTable(6, 0, 1, "a", "z"), addTable(7, 2, 1, "a", "b"), addTable(1, 0, 1, "x", "y"),
		addTable(9, 1, 1, "q", "r"), addTable(3, 1, 1, "r\x00", "s"), addTable(8, 0, 1, "c", "c"), addTable(2, 2, 1, "z", "z"), addTable(4, 5, 1, "", "z"),
	}
	want := []int{8, 6, 1, 9, 3, 7, 5, 2, 4}
	for range edits {
		edits = append(edits[1:], edits[0])
		for _, list := range [][]api.Edit{edits, backwards(edits)} {
			s := applied(t, api.State{}, list...)
			var files []int
			for _, x := range s.Tables {
				files = append(files, x.File)
			}
			if !slices.Equal(files, want) {
				t.Errorf("Apply(%+v): the tables' files are %v; want %v", list, files, want)
			}
		}
	}
}

// backwards answers the edits from the last one to the first.
func backwards(edits []api.Edit) []api.Edit {
	list := slices.Clone(edits)
	slices.Reverse(list)
	return list
}

// P13.1: stores stand by rising files, logs as they came, also behind others that went.
func TestOrderOfStoresAndLogs(t *testing.T) {
	s := applied(t, api.State{}, addStore(5, 1), addLog(9), addStore(2, 0), addLog(1), addStore(8, 1), addLog(4), addStore(3, 0), addLog(6))
	wantState(t, "all", s, api.State{
		Stores: []api.Store{{File: 2}, {File: 3}, {File: 5, Tier: 1}, {File: 8, Tier: 1}},
		Logs:   []int{9, 1, 4, 6},
	})
	s = applied(t, s, dropStore(3), dropLog(1), addLog(3), addStore(1, 1), dropLog(9), addLog(9))
	wantState(t, "some went", s, api.State{
		Stores: []api.Store{{File: 1, Tier: 1}, {File: 2}, {File: 5, Tier: 1}, {File: 8, Tier: 1}},
		Logs:   []int{4, 6, 3, 9},
	})
}

// P13.1: the answer stands in its order, also where the state that was handed in doesn't.
func TestApplyOfAnotherOrder(t *testing.T) {
	s := several(t)
	slices.Reverse(s.Tables)
	slices.Reverse(s.Stores)
	before := fmt.Sprint(s)
	wantState(t, "no edits", applied(t, s), several(t))
	edits := []api.Edit{addTable(50, 1, 1, "cc", "cd"), addTable(5000, 0, 1, "", ""), addStore(10, 1), addStore(1000, 0), dropTable(6)}
	wantState(t, "some edits", applied(t, s, edits...), applied(t, several(t), edits...))
	wantRefused(t, "keys of another table", s, api.ErrState, addTable(50, 1, 1, "n", "n"))
	if behind := fmt.Sprint(s); behind != before {
		t.Errorf("the state was %s, is %s", before, behind)
	}
}

// P13.1: what AddStore and AddLog refuse, and where two errors apply the first one of them.
func TestAddStoreAndLogRefused(t *testing.T) {
	s := several(t)
	for _, x := range []struct {
		name string
		edit api.Edit
		want api.Errno
	}{
		{"a store in the file 0", addStore(0, 0), api.ErrArg},
		{"a store in a file below 0", addStore(-7, 1), api.ErrArg},
		{"a store in the least file", addStore(math.MinInt, 1), api.ErrArg},
		{"a store in a tier below", addStore(50, -1), api.ErrArg},
		{"a store in a tier above", addStore(50, 2), api.ErrArg},
		{"a store in the least tier", addStore(50, math.MinInt), api.ErrArg},
		{"a store in the greatest tier", addStore(50, math.MaxInt), api.ErrArg},
		{"a store in a table's file", addStore(12, 0), api.ErrThere},
		{"a store again", addStore(2, 0), api.ErrThere},
		{"a store again in the other tier", addStore(2, 1), api.ErrThere},
		{"a store in a log's file", addStore(7, 1), api.ErrThere},
		{"a store again in no tier", addStore(2, 2), api.ErrArg},
		{"a store in a log's file in no tier", addStore(3, -1), api.ErrArg},
		{"a log in the file 0", addLog(0), api.ErrArg},
		{"a log in a file below 0", addLog(-1), api.ErrArg},
		{"a log in the least file", addLog(math.MinInt), api.ErrArg},
		{"a log in a table's file", addLog(5), api.ErrThere},
		{"a log in a store's file", addLog(31), api.ErrThere},
		{"a log again", addLog(30), api.ErrThere},
	} {
		wantRefused(t, x.name, s, x.want, x.edit)
	}
}

// P13.1: each Drop takes its own kind of thing alone, and only what is there.
func TestDrop(t *testing.T) {
	s := several(t)
	for kind, files := range map[int][]int{
		api.DropTable: {4, 6, 1, 12, 20, 11, 5, 8},
		api.DropStore: {9, 2, 31},
		api.DropLog:   {7, 3, 30},
	} {
		for _, file := range append(manifest.Files(s), 0, -1, 10, 100, math.MinInt, math.MaxInt) {
			edit := api.Edit{Kind: kind, File: file}
			if !slices.Contains(files, file) {
				wantRefused(t, fmt.Sprintf("%+v", edit), s, api.ErrNone, edit)
				continue
			}
			want := applied(t, s)
			want.Tables = slices.DeleteFunc(want.Tables, func(x api.Table) bool { return x.File == file })
			want.Stores = slices.DeleteFunc(want.Stores, func(x api.Store) bool { return x.File == file })
			want.Logs = slices.DeleteFunc(want.Logs, func(x int) bool { return x == file })
			less := applied(t, s, edit)
			wantState(t, fmt.Sprintf("%+v", edit), less, want)
			wantState(t, "the state that was handed in", s, several(t))
			wantRefused(t, "a second time", less, api.ErrNone, edit)
			for _, again := range []api.Edit{addTable(file, 0, 1, "", ""), addStore(file, 1), addLog(file)} {
				if got := manifest.Files(applied(t, less, again)); !slices.Equal(got, manifest.Files(s)) {
					t.Errorf("%+v behind %+v: the files are %v", again, edit, got)
				}
			}
		}
	}
	for _, kind := range []int{api.DropTable, api.DropStore, api.DropLog} {
		wantRefused(t, "nothing to drop", api.State{}, api.ErrNone, api.Edit{Kind: kind, File: 1})
		wantRefused(t, "the file 0 of nothing", api.State{}, api.ErrNone, api.Edit{Kind: kind})
	}
}

// P13.1: where a table went, another one may have its keys.
func TestKeysOfWhatWent(t *testing.T) {
	s := applied(t, api.State{}, addTable(1, 2, 1, "a", "c"), addTable(2, 2, 1, "d", "f"))
	wantRefused(t, "ahead of it", s, api.ErrState, addTable(3, 2, 1, "b", "c"), dropTable(1))
	s = applied(t, s, dropTable(1), addTable(3, 2, 1, "b", "c"), addTable(1, 2, 1, "a", "a"))
	wantState(t, "behind it", s, api.State{Tables: []api.Table{
		{File: 1, Level: 2, Count: 1, Low: "a", High: "a"}, {File: 3, Level: 2, Count: 1, Low: "b", High: "c"}, {File: 2, Level: 2, Count: 1, Low: "d", High: "f"},
	}})
}

// P13.1: SetNext below 1, below Next, at it and above it.
func TestSetNext(t *testing.T) {
	for _, next := range []int{0, -1, math.MinInt} {
		wantRefused(t, fmt.Sprint("next ", next), api.State{}, api.ErrArg, setNext(next))
	}
	s := applied(t, api.State{}, setNext(5))
	for _, next := range []int{4, 1, 0, -5, math.MinInt} {
		wantRefused(t, fmt.Sprint("next ", next, " behind 5"), s, api.ErrArg, setNext(next))
	}
	for _, next := range []int{5, 6, math.MaxInt} {
		wantState(t, "SetNext", applied(t, s, setNext(next)), api.State{Next: next})
	}
	wantState(t, "twice", applied(t, s, setNext(6), setNext(9)), api.State{Next: 9})
	wantRefused(t, "down again", s, api.ErrArg, setNext(9), setNext(8))
	wantState(t, "files above Next", applied(t, s, addLog(9), setNext(7)), api.State{Logs: []int{9}, Next: 7})
}

// P13.1: any other kind.
func TestOtherKinds(t *testing.T) {
	for _, kind := range []int{0, 8, -1, 9, 64, 257, 1 << 32, math.MinInt, math.MaxInt} {
		for _, file := range []int{0, 1, 4, 50} {
			edit := addTable(file, 1, 1, "q", "r")
			edit.Kind = kind
			wantRefused(t, fmt.Sprint("kind ", kind), several(t), api.ErrArg, edit)
			wantRefused(t, fmt.Sprint("kind ", kind), api.State{}, api.ErrArg, edit)
		}
	}
}

// P13.1, P13.3: what a kind has no use for isn't looked at, isn't in the state, and isn't packed.
func TestWhatIsOfNoUse(t *testing.T) {
	s := several(t)
	for _, edit := range []api.Edit{
		addStore(50, 1), addStore(0, 1), addStore(50, 2), addStore(9, 0), addLog(50), addLog(-1), addLog(7),
		dropTable(4), dropTable(9), dropStore(9), dropStore(4), dropLog(7), dropLog(1), setNext(40), setNext(41), setNext(39),
	} {
		want, wantErr := manifest.Apply(s, edit)
		for _, n := range []int{0, 1, -1, 6, math.MinInt, math.MaxInt} {
			odd := edit
			odd.Count, odd.Low, odd.High = n, "z", "a"
			if edit.Kind != api.AddStore {
				odd.Level = n
			}
			got, e := manifest.Apply(s, odd)
			if e != wantErr || !alike(got, want) {
				t.Errorf("Apply(%+v) = %+v, %d; want %+v, %d", odd, got, e, want, wantErr)
			}
			list := []api.Edit{odd, addLog(5)}
			if a, b := manifest.Pack(list), manifest.Pack([]api.Edit{edit, addLog(5)}); a != b {
				t.Errorf("Pack(%+v) = %x; want %x", list, a, b)
			}
		}
	}
}

// P13.1: many edits, each of them on the state behind those ahead of it.
func TestApplyOfMany(t *testing.T) {
	var edits []api.Edit
	for i := 1; i <= 2000; i++ {
		edits = append(edits, addLog(i), setNext(i+1), dropLog(i), addStore(i, i%2))
	}
	for i := 1; i <= 2000; i++ {
		edits = append(edits, dropStore(i), addTable(i, 1+i%5, i, fmt.Sprintf("%06d", i), fmt.Sprintf("%06d", i)))
	}
	s := applied(t, api.State{}, edits...)
	if len(s.Tables) != 2000 || len(s.Stores) != 0 || len(s.Logs) != 0 || s.Next != 2001 {
		t.Fatalf("%d tables, %d stores, %d logs, next %d", len(s.Tables), len(s.Stores), len(s.Logs), s.Next)
	}
	for i, x := range s.Tables {
		level, place := 1+i/400, i%400
		file := place*5 + (level+4)%5
		if level == 1 {
			file += 5
		}
		key := fmt.Sprintf("%06d", file)
		if (x != api.Table{File: file, Level: level, Count: file, Low: key, High: key}) {
			t.Fatalf("the table %d is %+v", i, x)
		}
	}
}

// P13.1: an error among others: the first one's, wherever it stands; what stood ahead of it isn't done.
func TestErrorAmongOthers(t *testing.T) {
	good := []api.Edit{addLog(50), addStore(51, 0), addTable(52, 0, 1, "a", "b"), setNext(60), dropLog(7), dropStore(9), dropTable(4)}
	bad := map[api.Errno]api.Edit{api.ErrArg: setNext(1), api.ErrThere: addLog(30), api.ErrState: addTable(53, 1, 1, "n", "n"), api.ErrNone: dropTable(99)}
	s := several(t)
	for at := range len(good) + 1 {
		for want, edit := range bad {
			edits := slices.Insert(slices.Clone(good), at, edit)
			wantRefused(t, fmt.Sprintf("%+v at %d", edit, at), s, want, edits...)
			for _, second := range bad {
				wantRefused(t, fmt.Sprintf("%+v at %d, %+v at the end", edit, at, second), s, want, append(slices.Clone(edits), second)...)
			}
		}
	}
	wantRefused(t, "a file that came just ahead", s, api.ErrThere, addLog(50), addStore(50, 1))
	wantRefused(t, "a file that went just ahead", s, api.ErrNone, dropLog(7), dropLog(7))
	wantState(t, "the state that was handed in", s, several(t))
}

// roomy answers a state whose lists have spare room, in which other things stand.
func roomy(s api.State) api.State {
	s.Tables = append(slices.Clone(s.Tables), api.Table{File: 901}, api.Table{File: 902})[:len(s.Tables)]
	s.Stores = append(slices.Clone(s.Stores), api.Store{File: 903}, api.Store{File: 904})[:len(s.Stores)]
	s.Logs = append(slices.Clone(s.Logs), 905, 906)[:len(s.Logs)]
	return s
}

// rooms tells a state with the spare room of its lists.
func rooms(s api.State) string {
	return fmt.Sprint(s.Tables[:len(s.Tables)+2], s.Stores[:len(s.Stores)+2], s.Logs[:len(s.Logs)+2], s.Next)
}

// P13.1: the state that is handed in stays as it was, spare room included, and shares no memory with the answer.
func TestApplySharesNothing(t *testing.T) {
	for _, edits := range [][]api.Edit{
		nil,
		{addLog(50)}, {addStore(1000, 0)}, {addStore(10, 0)}, {addTable(50, 5, 1, "", "")}, {addTable(50, 0, 1, "", "")}, {setNext(90)},
		{dropLog(7)}, {dropLog(30)}, {dropStore(2)}, {dropStore(31)}, {dropTable(6)}, {dropTable(8)},
		{addLog(50), dropLog(7), addStore(51, 1), dropStore(2), addTable(52, 4, 1, "", ""), dropTable(6)},
		{dropTable(6), dropTable(4), addTable(6, 0, 1, "", ""), dropStore(2), addStore(2, 1), addLog(0)},
	} {
		s := roomy(several(t))
		before := rooms(s)
		list := append(slices.Clone(edits), addLog(907))[:len(edits)]
		got, e := manifest.Apply(s, list...)
		if behind := rooms(s); behind != before {
			t.Errorf("Apply(%+v): the state was %s, is %s", edits, before, behind)
		}
		if spare := list[:len(list)+1]; !slices.Equal(spare[:len(edits)], edits) || spare[len(edits)] != addLog(907) {
			t.Errorf("Apply(%+v): the edits are %+v", edits, spare)
		}
		if e != api.OK {
			continue
		}
		again := applied(t, s, edits...)
		scribble(got)
		if behind := rooms(s); behind != before {
			t.Errorf("Apply(%+v): what is written into its answer is seen in the state: %s", edits, behind)
		}
		wantState(t, "another answer", again, applied(t, several(t), edits...))
		scribble(s)
		wantState(t, "an answer behind the writing into the state", again, applied(t, several(t), edits...))
	}
}

// scribble writes over all that a state's lists have room for.
func scribble(s api.State) {
	for i := range s.Tables[:cap(s.Tables)] {
		s.Tables[:cap(s.Tables)][i] = api.Table{File: 999}
	}
	for i := range s.Stores[:cap(s.Stores)] {
		s.Stores[:cap(s.Stores)][i] = api.Store{File: 999}
	}
	for i := range s.Logs[:cap(s.Logs)] {
		s.Logs[:cap(s.Logs)][i] = 999
	}
}

// P13.2: Whole of the zero state and of others: Next, the logs, the stores, the tables, as they stand.
func TestWhole(t *testing.T) {
	for _, x := range []struct {
		s    api.State
		want []api.Edit
	}{
		{api.State{}, nil},
		{api.State{Tables: []api.Table{}, Stores: []api.Store{}, Logs: []int{}}, nil},
		{api.State{Next: 1}, []api.Edit{setNext(1)}},
		{api.State{Logs: []int{7, 3}}, []api.Edit{addLog(7), addLog(3)}},
		{api.State{Stores: []api.Store{{File: 2}, {File: 5, Tier: 1}}}, []api.Edit{addStore(2, 0), addStore(5, 1)}},
		{several(t), []api.Edit{
			setNext(40), addLog(7), addLog(3), addLog(30), addStore(2, 0), addStore(9, 1), addStore(31, 1),
			addTable(6, 0, 1, "a", "a"), addTable(4, 0, 5, "a", "z"), addTable(1, 0, 2, "b", "c"),
			addTable(20, 1, 3, "a", "c"), addTable(11, 1, 4, "d", "lz"), addTable(12, 1, 9, "m", "p"),
			addTable(5, 3, 1, "", ""), addTable(8, 5, 1<<40, "a", "\xff"),
		}},
	} {
		got := manifest.Whole(x.s)
		if !slices.Equal(got, x.want) {
			t.Errorf("Whole(%+v) = %+v; want %+v", x.s, got, x.want)
		}
		wantState(t, "Apply of Whole", applied(t, api.State{}, got...), x.s)
	}
}

// P13.2: Whole and Files leave the state as it was, spare room included, and their answers are new.
func TestWholeAndFilesShareNothing(t *testing.T) {
	s := roomy(several(t))
	before := rooms(s)
	edits, files := manifest.Whole(s), manifest.Files(s)
	for i := range files[:cap(files)] {
		files[:cap(files)][i] = 999
	}
	for i := range edits[:cap(edits)] {
		edits[:cap(edits)][i] = addLog(999)
	}
	if behind := rooms(s); behind != before {
		t.Errorf("the state was %s, is %s", before, behind)
	}
	if again := manifest.Whole(s); len(again) != 15 || again[0] != setNext(40) {
		t.Errorf("Whole again = %+v", again)
	}
}

// P13.2: Files of the zero state and of others, rising.
func TestFiles(t *testing.T) {
	for _, x := range []struct {
		s    api.State
		want []int
	}{
		{api.State{}, nil},
		{api.State{Next: 9}, nil},
		{api.State{Logs: []int{7, 3, 5}}, []int{3, 5, 7}},
		{api.State{Stores: []api.Store{{File: 2}, {File: 5, Tier: 1}}}, []int{2, 5}},
		{api.State{Tables: []api.Table{{File: 8}, {File: 6}, {File: 9, Level: 1}}}, []int{6, 8, 9}},
		{several(t), []int{1, 2, 3, 4, 5, 6, 7, 8, 9, 11, 12, 20, 30, 31}},
	} {
		if got := manifest.Files(x.s); !slices.Equal(got, x.want) {
			t.Errorf("Files(%+v) = %v; want %v", x.s, got, x.want)
		}
	}
}

// packed are lists of edits and their bytes.
var packed = []struct {
	name  string
	edits []api.Edit
	want  string
}{
	{"none", nil, "\x40"},
	{"AddTable", []api.Edit{addTable(5, 1, 3, "ab", "c")}, "\x41\x41\x45\x41\x43\x42ab\x41c"},
	{"AddTable of great numbers", []api.Edit{addTable(64, 4096, 65, "", "")}, "\x41\x41\x01\x40\x01\x00\x40\x01\x41\x40\x40"},
	{"AddTable of numbers below 0", []api.Edit{addTable(-1, -2, -65, "z", "a")}, "\x41\x41\x80\x81\x01\x80\x41z\x41a"},
	{"DropTable", []api.Edit{dropTable(63)}, "\x41\x42\x7f"},
	{"AddStore", []api.Edit{addStore(9, 1)}, "\x41\x43\x49\x41"},
	{"AddStore in no tier", []api.Edit{addStore(9, -64)}, "\x41\x43\x49\xbf"},
	{"DropStore", []api.Edit{dropStore(0)}, "\x41\x44\x40"},
	{"AddLog", []api.Edit{addLog(2)}, "\x41\x45\x42"},
	{"DropLog", []api.Edit{dropLog(-3)}, "\x41\x46\x82"},
	{"SetNext", []api.Edit{setNext(130)}, "\x41\x47\x02\x42"},
	{"kind 0", []api.Edit{{}}, "\x41\x40\x40"},
	{"kind 8", []api.Edit{{Kind: 8, File: 1}}, "\x41\x48\x41"},
	{"kind 65", []api.Edit{{Kind: 65, File: 1}}, "\x41\x01\x41\x41"},
	{"a kind below 0", []api.Edit{{Kind: -1, File: 1}}, "\x41\x80\x41"},
	{"three", []api.Edit{setNext(3), addStore(1, 0), dropTable(2)}, "\x43\x47\x43\x43\x41\x40\x42\x42"},
	{"tables in a row", []api.Edit{addTable(1, 0, 1, "", "b"), addTable(2, 0, 1, "A", "A")}, "\x42\x41\x41\x40\x41\x40\x41b\x41\x42\x40\x41\x41A\x41A"},
	{"the ends of numbers", []api.Edit{{Kind: math.MinInt, File: math.MaxInt}}, "\x41\x07" + strings.Repeat("\x3f", 9) + "\xbf\x07" + strings.Repeat("\x3f", 9) + "\x7f"},
}

// P13.3: each kind, none and several, byte by byte, and back again.
func TestPack(t *testing.T) {
	for _, x := range packed {
		if s := manifest.Pack(x.edits); s != x.want {
			t.Errorf("%s: Pack = %x; want %x", x.name, s, x.want)
		}
		if got, e := manifest.Unpack(x.want); !slices.Equal(got, x.edits) || e != api.OK {
			t.Errorf("%s: Unpack = %+v, %d; want %+v", x.name, got, e, x.edits)
		}
	}
}

// P13.3: of a kind there is behind Unpack just what was packed.
func TestUnpackOfWhatIsOfNoUse(t *testing.T) {
	for kind := -1; kind <= 9; kind++ {
		full := api.Edit{Kind: kind, File: 2, Level: 3, Count: 4, Low: "l", High: "h"}
		want := api.Edit{Kind: kind, File: 2}
		switch kind {
		case api.AddTable:
			want = full
		case api.AddStore:
			want.Level = 3
		}
		if got, e := manifest.Unpack(manifest.Pack([]api.Edit{full, full})); !slices.Equal(got, []api.Edit{want, want}) || e != api.OK {
			t.Errorf("kind %d: %+v, %d; want %+v twice", kind, got, e, want)
		}
	}
}

// P13.3: many edits.
func TestPackOfMany(t *testing.T) {
	var edits []api.Edit
	for i := range 30000 {
		edits = append(edits, addTable(i, i%6, i*i, fmt.Sprint(i), long(i%70)), dropLog(-i), addStore(i, i))
	}
	got, e := manifest.Unpack(manifest.Pack(edits))
	if !slices.Equal(got, edits) || e != api.OK {
		t.Errorf("%d edits, %d; want %d", len(got), e, len(edits))
	}
}

// P13.3: cut off at each place: ErrShort; with something behind: ErrTail.
func TestUnpackOfLessAndMore(t *testing.T) {
	for _, x := range packed {
		for cut := range len(x.want) {
			if got, e := manifest.Unpack(x.want[:cut]); len(got) != 0 || e != api.ErrShort {
				t.Errorf("%s: Unpack of the first %d bytes = %+v, %d", x.name, cut, got, e)
			}
		}
		for _, tail := range []string{"\x40", "\x00", "\xff", "\x45\x42", "tail", x.want} {
			if got, e := manifest.Unpack(x.want + tail); len(got) != 0 || e != api.ErrTail {
				t.Errorf("%s: Unpack with %x behind = %+v, %d", x.name, tail, got, e)
			}
		}
	}
}

// P13.3: bytes that are no edits, and which error is told of them.
func TestUnpackRefused(t *testing.T) {
	for _, x := range []struct {
		name, s string
		want    api.Errno
	}{
		{"nothing", "", api.ErrShort},
		{"a list of -1", "\x80", api.ErrForm},
		{"a list of 0 in another form", "\x00\x40", api.ErrForm},
		{"no number of edits", "\xc0", api.ErrForm},
		{"fewer edits than there should be", "\x42\x45\x42", api.ErrShort},
		{"far fewer", "\x1f\x3f\x3f\x3f\x3f\x7f\x45\x42", api.ErrShort},
		{"more edits than there should be", "\x41\x45\x42\x45\x43", api.ErrTail},
		{"no kind", "\x41\xc5\x42", api.ErrForm},
		{"a kind in another form", "\x41\x00\x45\x42", api.ErrForm},
		{"no file", "\x41\x45\xff", api.ErrForm},
		{"a file in another form", "\x41\x45\x00\x42", api.ErrForm},
		{"a number that is too great", "\x41\x45\x08" + strings.Repeat("\x00", 9) + "\x40", api.ErrForm},
		{"no level of a store", "\x41\x43\x49\xc0", api.ErrForm},
		{"no level", "\x41\x41\x45\xc0\x43\x40\x40", api.ErrForm},
		{"no count", "\x41\x41\x45\x41\xc0\x40\x40", api.ErrForm},
		{"no length of Low", "\x41\x41\x45\x41\x43\xc0\x40", api.ErrForm},
		{"a length of Low below 0", "\x41\x41\x45\x41\x43\x80\x40", api.ErrForm},
		{"a length of High below 0", "\x41\x41\x45\x41\x43\x40\x80", api.ErrForm},
		{"Low without its bytes", "\x41\x41\x45\x41\x43\x43ab", api.ErrShort},
		{"High without its bytes", "\x41\x41\x45\x41\x43\x40\x42c", api.ErrShort},
		{"an error ahead of a tail", "\x41\xc5\x42tail", api.ErrForm},
		{"an error behind a good one", "\x42\x45\x42\x45\xc2", api.ErrForm},
	} {
		if got, e := manifest.Unpack(x.s); len(got) != 0 || e != x.want {
			t.Errorf("%s: Unpack(%x) = %+v, %d; want nothing, %d", x.name, x.s, got, e, x.want)
		}
	}
}

// P13.3: two answers share no memory, and what was handed in stays as it was.
func TestPackAndUnpackShareNothing(t *testing.T) {
	edits := []api.Edit{addTable(1, 0, 1, "a", "b"), addStore(2, 1)}
	list := append(slices.Clone(edits), addLog(907))[:2]
	s := manifest.Pack(list)
	if spare := list[:3]; !slices.Equal(spare[:2], edits) || spare[2] != addLog(907) {
		t.Errorf("Pack: the edits are %+v", spare)
	}
	one, _ := manifest.Unpack(s)
	two, _ := manifest.Unpack(s)
	for i := range one[:cap(one)] {
		one[:cap(one)][i] = addLog(999)
	}
	if !slices.Equal(two, edits) {
		t.Errorf("what was written into one answer is seen in another: %+v", two)
	}
}

// P13.4: a book: an empty file of the tier Hot, by one change; its state, ahead of all that is done.
func TestBegin(t *testing.T) {
	for _, file := range []int{1, 7, math.MaxInt} {
		for _, s := range []api.State{{}, {Next: 3}, several(t)} {
			d, _ := disk.New(1, 0)
			b, e := manifest.Begin(d, file, s)
			if b == nil || e != api.OK {
				t.Fatalf("Begin(%d) = %v, %d", file, b, e)
			}
			if b.File() != file || d.Steps() != 1 || !slices.Equal(d.Files(), []int{file}) {
				t.Errorf("Begin(%d): File = %d, %d changes, files %v", file, b.File(), d.Steps(), d.Files())
			}
			if size, tier, e := d.Size(file); size != 0 || tier != api.Hot || e != api.OK {
				t.Errorf("Begin(%d): Size = %d, %d, %d", file, size, tier, e)
			}
			wantState(t, "State of a new book", b.State(), s)
			wantError(t, "Sync while the first record waits", b.Sync(), api.ErrState)
			wantNoLoad(t, "a new book isn't the disk's", d, api.ErrNone)
		}
	}
}

// P13.4: the first record is the Pack of a Whole, each further one the Pack of what was noted at once, each a frame of a log.
func TestBytesOfAManifest(t *testing.T) {
	s := several(t)
	d, b := pointed(t, s)
	wantOK(t, "Note", b.Note(addLog(50), setNext(60)))
	wantOK(t, "Note", b.Note())
	wantOK(t, "Note", b.Note(dropLog(7)))
	wantOK(t, "Lay", b.Lay())
	want := wal.Frame(manifest.Pack(manifest.Whole(s))) + wal.Frame("\x42\x45\x72\x47\x7c") + wal.Frame("\x40") + wal.Frame("\x41\x46\x47")
	size, tier, _ := d.Size(1)
	if got, e := d.Read(1, 0, size); got != want || tier != api.Hot || e != api.OK {
		t.Errorf("the file has %x, %d; want %x", got, e, want)
	}
}

// P13.4: the disk's errors of making the file; then there is no book, and nothing has changed.
func TestBeginRefused(t *testing.T) {
	for _, x := range []struct {
		name string
		file int
		hot  int
		want api.Errno
	}{
		{"a file 0", 0, 9, api.ErrArg},
		{"a file below 0", -4, 9, api.ErrArg},
		{"the least file", math.MinInt, 9, api.ErrArg},
		{"a file that is there", 1, 9, api.ErrThere},
		{"a file that is there in the other tier", 2, 9, api.ErrThere},
		{"no room", 3, 2, api.ErrFull},
		{"no room and a file that is there", 2, 2, api.ErrThere},
	} {
		d := newDisk(t, x.hot)
		wantOK(t, "Make", d.Make(api.Hot, 1))
		wantOK(t, "Add", d.Add(1, "there"))
		wantOK(t, "Make", d.Make(api.Cold, 2))
		if b, e := manifest.Begin(d, x.file, several(t)); b != nil || e != x.want {
			t.Errorf("%s: Begin = %v, %d; want no book, %d", x.name, b, e, x.want)
		}
		if s, _ := d.Read(1, 0, 5); s != "there" || d.Steps() != 3 || !slices.Equal(d.Files(), []int{1, 2}) {
			t.Errorf("%s: %d changes, files %v", x.name, d.Steps(), d.Files())
		}
	}
}

// P13.4, P13.7: a disk that is down, one whose power goes just then, and none.
func TestBeginDown(t *testing.T) {
	d := newDisk(t, 9)
	d.Arm(0)
	for _, name := range []string{"the power goes", "the power is gone"} {
		if b, e := manifest.Begin(d, 1, several(t)); b != nil || e != api.ErrDown {
			t.Errorf("%s: Begin = %v, %d", name, b, e)
		}
	}
	if b, e := manifest.Begin(d, 0, api.State{}); b != nil || e != api.ErrDown {
		t.Errorf("the power is gone: Begin in the file 0 = %v, %d", b, e)
	}
	for _, file := range []int{1, 0} {
		if b, e := manifest.Begin(nil, file, api.State{}); b != nil || e != api.ErrDown {
			t.Errorf("no disk: Begin(%d) = %v, %d", file, b, e)
		}
	}
	d.Back()
	if d.Steps() != 0 || len(d.Files()) != 0 {
		t.Errorf("%d changes, files %v", d.Steps(), d.Files())
	}
	if b, e := manifest.Begin(d, 1, several(t)); b == nil || e != api.OK {
		t.Errorf("the power is back: Begin = %v, %d", b, e)
	}
}

// ofSize answers an edit that adds a table, so that the Pack of it behind the others has so many bytes.
func ofSize(t *testing.T, size int, ahead ...api.Edit) api.Edit {
	t.Helper()
	for n := size - 100; n <= size; n++ {
		edit := addTable(1<<30, 1, 1, "", long(n))
		if len(manifest.Pack(append(slices.Clone(ahead), edit))) == size {
			return edit
		}
	}
	t.Fatalf("there is no Pack of %d bytes", size)
	return api.Edit{}
}

// P13.4: a state whose Pack has just MaxRecord bytes, and one more, which is told ahead of the disk's errors.
func TestBeginOfTheLongest(t *testing.T) {
	for _, ahead := range [][]api.Edit{nil, manifest.Whole(api.State{Next: 9, Logs: []int{3, 2}})} {
		most := applied(t, api.State{}, append(slices.Clone(ahead), ofSize(t, api.MaxRecord, ahead...))...)
		over := applied(t, api.State{}, append(slices.Clone(ahead), ofSize(t, api.MaxRecord+1, ahead...))...)
		d := newDisk(t, api.MaxBlocks)
		b, e := manifest.Begin(d, 1, most)
		wantOK(t, "Begin of the longest", e)
		wantOK(t, "Lay", b.Lay())
		wantOK(t, "Sync", b.Sync())
		wantOK(t, "Point", b.Point())
		wantLoad(t, "the longest", d, most)
		steps := d.Steps()
		for _, x := range []struct {
			name string
			d    *disk.Disk
			file int
		}{{"one more", d, 2}, {"one more in the file 0", d, 0}, {"one more in a file that is there", d, 1}, {"one more on no disk", nil, 2}} {
			if b, e := manifest.Begin(x.d, x.file, over); b != nil || e != api.ErrLong {
				t.Errorf("%s: Begin = %v, %d", x.name, b, e)
			}
		}
		if d.Steps() != steps || !slices.Equal(d.Files(), []int{1}) {
			t.Errorf("%d changes, files %v", d.Steps()-steps, d.Files())
		}
	}
}

// P13.4, P13.6: as many files as a record has room for are a book, and are loaded.
func TestBookOfManyFiles(t *testing.T) {
	s := api.State{Next: 1 << 40}
	for file := 1; len(manifest.Pack(manifest.Whole(s))) <= api.MaxRecord; file += 5000 {
		for i := range 5000 {
			s.Logs = append(s.Logs, file+i)
		}
	}
	d := newDisk(t, api.MaxBlocks)
	if b, e := manifest.Begin(d, 1, s); b != nil || e != api.ErrLong {
		t.Fatalf("Begin of %d logs = %v, %d", len(s.Logs), b, e)
	}
	s.Logs = s.Logs[:len(s.Logs)-5000]
	b, e := manifest.Begin(d, 1, s)
	wantOK(t, "Begin", e)
	wantOK(t, "Note", b.Note(dropLog(s.Logs[0]), addStore(s.Logs[0], 1)))
	wantOK(t, "Lay", b.Lay())
	wantOK(t, "Sync", b.Sync())
	wantOK(t, "Point", b.Point())
	s.Stores, s.Logs = []api.Store{{File: s.Logs[0], Tier: 1}}, s.Logs[1:]
	if got, e := manifest.Load(d); e != api.OK || !alike(got, s) || len(s.Logs) < 200000 {
		t.Errorf("Load = %d logs, %d; want %d", len(got.Logs), e, len(s.Logs))
	}
}

// P13.4: what the caller writes into the state behind Begin isn't seen.
func TestBeginKeepsNothing(t *testing.T) {
	s := roomy(several(t))
	before := rooms(s)
	d := newDisk(t, 100)
	b, e := manifest.Begin(d, 1, s)
	wantOK(t, "Begin", e)
	wantOK(t, "Note", b.Note(addLog(50), dropTable(4), dropStore(2), dropLog(7)))
	if behind := rooms(s); behind != before {
		t.Errorf("the state was %s, is %s", before, behind)
	}
	scribble(s)
	wantState(t, "State", b.State(), several(t))
	wantOK(t, "Lay", b.Lay())
	wantOK(t, "Sync", b.Sync())
	wantOK(t, "Point", b.Point())
	want := applied(t, several(t), addLog(50), dropTable(4), dropStore(2), dropLog(7))
	wantState(t, "State behind Sync", b.State(), want)
	wantLoad(t, "behind Point", d, want)
}

// P13.5: a note waits, is written by Lay, is sure by Sync: each of these by one change, and only then State tells it.
func TestNote(t *testing.T) {
	s := several(t)
	d, b := pointed(t, s)
	steps := d.Steps()
	wantOK(t, "Note", b.Note(addLog(50)))
	wantOK(t, "Note", b.Note(dropLog(50), addStore(50, 1)))
	if d.Steps() != steps {
		t.Errorf("%d changes behind Note", d.Steps()-steps)
	}
	wantState(t, "behind Note", b.State(), s)
	wantLoad(t, "behind Note", d, s)
	wantError(t, "Sync behind Note", b.Sync(), api.ErrState)
	wantOK(t, "Lay", b.Lay())
	if d.Steps() != steps+1 {
		t.Errorf("%d changes behind Lay", d.Steps()-steps)
	}
	wantState(t, "behind Lay", b.State(), s)
	wantOK(t, "Sync", b.Sync())
	if d.Steps() != steps+2 {
		t.Errorf("%d changes behind Sync", d.Steps()-steps)
	}
	want := applied(t, s, addStore(50, 1))
	wantState(t, "behind Sync", b.State(), want)
	d.Back()
	wantLoad(t, "behind Sync", d, want)
}

// P13.5: what a note is held against: all that was noted, be it sure, written, or waiting.
func TestNoteRefused(t *testing.T) {
	_, b := pointed(t, several(t))
	wantError(t, "a log that is there from the beginning on", b.Note(addLog(7)), api.ErrThere)
	wantOK(t, "Note", b.Note(addLog(50), addTable(51, 2, 1, "k", "m")))
	for range 3 {
		wantError(t, "a log that was noted", b.Note(addLog(50)), api.ErrThere)
		wantError(t, "a table of keys that were noted", b.Note(addTable(52, 2, 1, "m", "m")), api.ErrState)
		wantError(t, "a store that isn't there", b.Note(dropStore(50)), api.ErrNone)
		wantError(t, "no kind", b.Note(api.Edit{Kind: 9, File: 70}), api.ErrArg)
		wantError(t, "one of several", b.Note(addLog(60), setNext(70), addLog(60)), api.ErrThere)
		if e := b.Lay(); e == api.OK {
			wantOK(t, "Sync", b.Sync())
		}
	}
	wantOK(t, "what stood ahead of an error wasn't noted", b.Note(addLog(60), setNext(40)))
	wantOK(t, "Lay", b.Lay())
	wantOK(t, "Sync", b.Sync())
	wantState(t, "State", b.State(), applied(t, several(t), addLog(50), addTable(51, 2, 1, "k", "m"), addLog(60)))
}

// P13.5: a refused note leaves nothing that waits.
func TestRefusedNoteDoesNotWait(t *testing.T) {
	d, b := pointed(t, several(t))
	over := ofSize(t, api.MaxRecord+1)
	steps := d.Steps()
	for _, edit := range []api.Edit{addLog(7), dropLog(99), addTable(60, 1, 1, "m", "m"), {}, over} {
		if e := b.Note(edit); e == api.OK {
			t.Errorf("Note of kind %d = %d", edit.Kind, e)
		}
		wantOK(t, "Sync", b.Sync())
		wantOK(t, "Lay", b.Lay())
	}
	if d.Steps() != steps+5 {
		t.Errorf("%d changes; want 5", d.Steps()-steps)
	}
	wantState(t, "State", b.State(), several(t))
}

// P13.5: a Pack of MaxRecord bytes, and of one more, which isn't noted; Apply's error is told ahead of that.
func TestNoteOfTheLongest(t *testing.T) {
	most, over := ofSize(t, api.MaxRecord), ofSize(t, api.MaxRecord+1)
	d := newDisk(t, api.MaxBlocks)
	b, e := manifest.Begin(d, 1, api.State{Next: 9})
	wantOK(t, "Begin", e)
	wantOK(t, "Lay", b.Lay())
	wantError(t, "Note of one more", b.Note(over), api.ErrLong)
	refused := over
	refused.Level = 9
	wantError(t, "Note of one more that can't be applied", b.Note(refused), api.ErrArg)
	wantOK(t, "Sync", b.Sync())
	wantOK(t, "Note of the longest", b.Note(most))
	wantError(t, "Note of one more, of a file that is there", b.Note(over), api.ErrThere)
	var many []api.Edit
	for range 300000 {
		many = append(many, addLog(40), dropLog(40))
	}
	wantError(t, "Note of many that change nothing", b.Note(many...), api.ErrLong)
	wantOK(t, "Lay", b.Lay())
	wantOK(t, "Sync", b.Sync())
	wantOK(t, "Point", b.Point())
	want := applied(t, api.State{Next: 9}, most)
	wantState(t, "State", b.State(), want)
	wantLoad(t, "the longest", d, want)
}

// P13.5: a note of no edits waits as any other.
func TestNoteOfNone(t *testing.T) {
	d, b := pointed(t, several(t))
	size, _, _ := d.Size(1)
	wantOK(t, "Note", b.Note())
	wantError(t, "Sync", b.Sync(), api.ErrState)
	wantOK(t, "Lay", b.Lay())
	if s, e := d.Read(1, size, 6); s != wal.Frame("\x40") || e != api.OK {
		t.Errorf("the file has %x more, %d", s, e)
	}
	wantOK(t, "Sync", b.Sync())
	wantState(t, "State", b.State(), several(t))
	wantLoad(t, "none", d, several(t))
}

// P13.5: Lay and Sync where nothing waits; what isn't sure doesn't last.
func TestLayAndSyncOfNone(t *testing.T) {
	d, b := pointed(t, several(t))
	steps := d.Steps()
	wantOK(t, "Lay of none", b.Lay())
	if d.Steps() != steps {
		t.Errorf("%d changes behind Lay of none", d.Steps()-steps)
	}
	wantOK(t, "Sync of none", b.Sync())
	if d.Steps() != steps+1 {
		t.Errorf("%d changes behind Sync of none", d.Steps()-steps)
	}
	wantState(t, "State", b.State(), several(t))
	wantOK(t, "Note", b.Note(addLog(50)))
	wantOK(t, "Lay", b.Lay())
	wantOK(t, "Lay again", b.Lay())
	if d.Steps() != steps+2 {
		t.Errorf("%d changes behind Lay", d.Steps()-steps)
	}
	wantLoad(t, "written", d, applied(t, several(t), addLog(50)))
	d.Back()
	wantLoad(t, "written, not sure", d, several(t))
}

// P13.5: where there is no room, all waits still, and Undo lets it go.
func TestLayWithoutRoom(t *testing.T) {
	s := applied(t, api.State{}, addLog(5))
	d := newDisk(t, 3)
	b, e := manifest.Begin(d, 1, s)
	wantOK(t, "Begin", e)
	wantOK(t, "Lay", b.Lay())
	wantOK(t, "Sync", b.Sync())
	wantOK(t, "Point", b.Point())
	wantOK(t, "Make", d.Make(api.Hot, 2))
	wantOK(t, "Note", b.Note(addTable(7, 1, 1, "", long(80))))
	wantOK(t, "Note", b.Note(addLog(8)))
	for range 2 {
		wantError(t, "Lay without room", b.Lay(), api.ErrFull)
		wantError(t, "Sync of what waits still", b.Sync(), api.ErrState)
		wantState(t, "no room", b.State(), s)
		wantError(t, "Note of what was noted", b.Note(addLog(8)), api.ErrThere)
	}
	b.Undo()
	wantOK(t, "Lay behind Undo", b.Lay())
	wantOK(t, "Note behind Undo", b.Note(addLog(8)))
	wantOK(t, "Lay", b.Lay())
	wantOK(t, "Sync", b.Sync())
	wantState(t, "behind Undo", b.State(), applied(t, s, addLog(8)))
	wantOK(t, "Drop", d.Drop(2))
	wantOK(t, "Note", b.Note(addStore(9, 1)))
	wantOK(t, "Lay with room", b.Lay())
	wantOK(t, "Sync", b.Sync())
	wantLoad(t, "with room", d, applied(t, s, addLog(8), addStore(9, 1)))
}

// P13.5: where the room comes back, what waits is written as one.
func TestLayBehindNoRoom(t *testing.T) {
	d := newDisk(t, 3)
	wantOK(t, "Make", d.Make(api.Hot, 2))
	wantOK(t, "Make", d.Make(api.Hot, 3))
	b, e := manifest.Begin(d, 1, api.State{})
	wantOK(t, "Begin", e)
	wantOK(t, "Note", b.Note(addLog(5)))
	wantError(t, "Lay without room", b.Lay(), api.ErrFull)
	wantOK(t, "Note", b.Note(addLog(6)))
	wantOK(t, "Drop", d.Drop(2))
	steps := d.Steps()
	wantOK(t, "Lay with room", b.Lay())
	wantOK(t, "Sync", b.Sync())
	wantOK(t, "Point", b.Point())
	if d.Steps() != steps+3 {
		t.Errorf("%d changes", d.Steps()-steps)
	}
	wantLoad(t, "with room", d, api.State{Logs: []int{5, 6}})
	wantState(t, "with room", b.State(), api.State{Logs: []int{5, 6}})
}

// P13.5: Undo lets go what waits, and what is noted then is held against the state without it.
func TestUndo(t *testing.T) {
	d, b := pointed(t, several(t))
	b.Undo()
	wantOK(t, "Sync behind Undo of none", b.Sync())
	steps := d.Steps()
	wantOK(t, "Note", b.Note(addLog(50), dropLog(7)))
	wantOK(t, "Note", b.Note(addTable(51, 2, 1, "k", "m")))
	b.Undo()
	wantState(t, "behind Undo", b.State(), several(t))
	wantOK(t, "Lay behind Undo", b.Lay())
	if d.Steps() != steps {
		t.Errorf("%d changes behind Undo", d.Steps()-steps)
	}
	wantError(t, "Note of what was let go", b.Note(dropLog(50)), api.ErrNone)
	wantOK(t, "Note of the same file", b.Note(addStore(50, 1), dropLog(7)))
	wantOK(t, "Note of the same keys", b.Note(addTable(52, 2, 1, "m", "m")))
	wantOK(t, "Lay", b.Lay())
	wantOK(t, "Sync", b.Sync())
	want := applied(t, several(t), addStore(50, 1), dropLog(7), addTable(52, 2, 1, "m", "m"))
	wantState(t, "State", b.State(), want)
	wantLoad(t, "behind Undo", d, want)
}

// P13.4, P13.5: the first record waits as any other does, and Undo lets it go.
func TestUndoOfTheFirst(t *testing.T) {
	d, b := begun(t, several(t))
	b.Undo()
	wantState(t, "State", b.State(), several(t))
	wantOK(t, "Lay", b.Lay())
	wantOK(t, "Sync", b.Sync())
	wantOK(t, "Point", b.Point())
	wantNoLoad(t, "no records", d, api.ErrCorrupt)
}

// P13.5, P13.8: what was written stays noted, whatever is let go behind it: State tells what Load does.
func TestUndoBehindLay(t *testing.T) {
	d, b := pointed(t, several(t))
	wantOK(t, "Note", b.Note(addLog(50)))
	wantOK(t, "Lay", b.Lay())
	wantOK(t, "Note", b.Note(addLog(51)))
	b.Undo()
	wantOK(t, "Sync", b.Sync())
	want := applied(t, several(t), addLog(50))
	wantState(t, "State", b.State(), want)
	wantLoad(t, "behind Sync", d, want)
	wantError(t, "Note of what was written", b.Note(addLog(50)), api.ErrThere)
}

// P13.5: Point while the file isn't sure, or has bytes that aren't, or is gone.
func TestPoint(t *testing.T) {
	d, b := begun(t, several(t))
	wantError(t, "Point of a file that isn't sure", b.Point(), api.ErrState)
	wantOK(t, "Lay", b.Lay())
	wantError(t, "Point of bytes that aren't sure", b.Point(), api.ErrState)
	wantNoLoad(t, "not the disk's", d, api.ErrNone)
	wantOK(t, "Sync", b.Sync())
	wantNoLoad(t, "not the disk's yet", d, api.ErrNone)
	steps := d.Steps()
	wantOK(t, "Point", b.Point())
	if d.Steps() != steps+1 || d.Root() != 1 {
		t.Errorf("%d changes, the root is %d", d.Steps()-steps, d.Root())
	}
	wantState(t, "behind Point", b.State(), several(t))
	wantLoad(t, "behind Point", d, several(t))
	wantOK(t, "Point again", b.Point())
	wantOK(t, "Note", b.Note(addLog(50)))
	wantOK(t, "Point while something waits", b.Point())
	wantOK(t, "Lay", b.Lay())
	wantError(t, "Point of more that isn't sure", b.Point(), api.ErrState)
	wantState(t, "behind a refused Point", b.State(), several(t))
}

// P13.5: each call of a book whose file is gone.
func TestBookWithoutFile(t *testing.T) {
	d, b := begun(t, several(t))
	wantOK(t, "Drop", d.Drop(1))
	wantError(t, "Sync while something waits", b.Sync(), api.ErrState)
	wantError(t, "Lay", b.Lay(), api.ErrNone)
	wantError(t, "Point", b.Point(), api.ErrNone)
	wantOK(t, "Note", b.Note(addLog(50)))
	b.Undo()
	wantOK(t, "Lay of none", b.Lay())
	wantError(t, "Sync", b.Sync(), api.ErrNone)
	wantState(t, "State", b.State(), several(t))
	if b.File() != 1 {
		t.Errorf("File = %d", b.File())
	}
}

// P13.5: each call of a book whose disk is down.
func TestBookWithoutPower(t *testing.T) {
	d, b := pointed(t, several(t))
	wantOK(t, "Note", b.Note(addLog(50)))
	d.Arm(0)
	wantError(t, "Lay", b.Lay(), api.ErrDown)
	wantOK(t, "Note without power", b.Note(addLog(51)))
	wantError(t, "Note of what waits still", b.Note(addLog(50)), api.ErrThere)
	wantError(t, "Sync while something waits", b.Sync(), api.ErrState)
	wantError(t, "Point", b.Point(), api.ErrDown)
	wantState(t, "without power", b.State(), several(t))
	b.Undo()
	wantOK(t, "Lay of none", b.Lay())
	wantError(t, "Sync", b.Sync(), api.ErrDown)
	wantState(t, "without power", b.State(), several(t))
	wantNoLoad(t, "without power", d, api.ErrDown)
}

// P13.5: a Sync or a Point at which the power goes leaves what is sure as it was.
func TestPowerGoesAtSyncAndPoint(t *testing.T) {
	d, b := pointed(t, several(t))
	wantOK(t, "Note", b.Note(addLog(50)))
	wantOK(t, "Lay", b.Lay())
	d.Arm(0)
	wantError(t, "Sync", b.Sync(), api.ErrDown)
	wantState(t, "Sync", b.State(), several(t))
	d.Back()
	wantLoad(t, "Sync", d, several(t))
	d, b = begun(t, several(t))
	wantOK(t, "Lay", b.Lay())
	wantOK(t, "Sync", b.Sync())
	d.Arm(0)
	wantError(t, "Point", b.Point(), api.ErrDown)
	d.Back()
	wantNoLoad(t, "Point", d, api.ErrNone)
	wantOK(t, "Point with the power back", b.Point())
	wantLoad(t, "the power is back", d, several(t))
}

// P13.5: what State answers is in memory of its own, and stays while the book goes on.
func TestStateIsNew(t *testing.T) {
	_, b := begun(t, several(t))
	one, two := b.State(), b.State()
	scribble(one)
	wantState(t, "another answer", two, several(t))
	wantState(t, "State again", b.State(), several(t))
	wantOK(t, "Note", b.Note(addLog(50), dropTable(4), dropStore(2), dropLog(7)))
	wantOK(t, "Lay", b.Lay())
	wantOK(t, "Sync", b.Sync())
	wantState(t, "an answer of before", two, several(t))
	more := b.State()
	scribble(more)
	wantState(t, "State behind Sync", b.State(), applied(t, several(t), addLog(50), dropTable(4), dropStore(2), dropLog(7)))
	wantOK(t, "Note behind the writing into an answer", b.Note(dropLog(50)))
}

// P13.5: two books on one disk have nothing of each other; the root tells which of them is the disk's.
func TestTwoBooks(t *testing.T) {
	d, b := pointed(t, several(t))
	other, e := manifest.Begin(d, 2, b.State())
	wantOK(t, "Begin", e)
	wantOK(t, "Note", b.Note(addLog(50)))
	wantOK(t, "Note", other.Note(addStore(50, 0)))
	wantOK(t, "Lay", b.Lay())
	wantOK(t, "Sync", b.Sync())
	wantOK(t, "Lay", other.Lay())
	wantOK(t, "Sync", other.Sync())
	wantLoad(t, "the first one", d, applied(t, several(t), addLog(50)))
	wantOK(t, "Point", other.Point())
	wantLoad(t, "the other one", d, applied(t, several(t), addStore(50, 0)))
	wantOK(t, "Drop", d.Drop(b.File()))
	wantState(t, "the first one", b.State(), applied(t, several(t), addLog(50)))
	wantState(t, "the other one", other.State(), applied(t, several(t), addStore(50, 0)))
}

// P13.6: without a root, without power, without a disk.
func TestLoadOfNothing(t *testing.T) {
	d := newDisk(t, 9)
	wantNoLoad(t, "an empty disk", d, api.ErrNone)
	wantOK(t, "Make", d.Make(api.Hot, 1))
	wantNoLoad(t, "no root", d, api.ErrNone)
	d.Arm(0)
	wantError(t, "Make", d.Make(api.Hot, 2), api.ErrDown)
	wantNoLoad(t, "no root, no power", d, api.ErrDown)
	wantNoLoad(t, "no disk", nil, api.ErrDown)
	d, _ = pointed(t, several(t))
	d.Arm(0)
	wantLoad(t, "the power is there still", d, several(t))
	if d.Down() {
		t.Error("Load let the power go")
	}
	wantError(t, "Sync", d.Sync(1), api.ErrDown)
	wantNoLoad(t, "no power", d, api.ErrDown)
	d.Back()
	wantLoad(t, "the power is back", d, several(t))
}

// P13.6: roots that are no manifests, and ones that are.
func TestLoadOfAnyRoot(t *testing.T) {
	first := manifest.Pack([]api.Edit{setNext(5), addLog(3)})
	for _, x := range []struct {
		name    string
		records []string
		ok      bool
		want    api.State
	}{
		{"no records", nil, false, api.State{}},
		{"no edits", []string{"\x40"}, true, api.State{}},
		{"a record without bytes", []string{""}, false, api.State{}},
		{"other bytes", []string{"any record"}, false, api.State{}},
		{"a first record", []string{first}, true, api.State{Next: 5, Logs: []int{3}}},
		{"a first record with a tail", []string{first + "\x40"}, false, api.State{}},
		{"a first record that ends too early", []string{first[:4]}, false, api.State{}},
		{"no edits behind the first record", []string{first, "\x40", "\x40"}, true, api.State{Next: 5, Logs: []int{3}}},
		{"two more", []string{first, "\x41\x46\x43", "\x41\x45\x44"}, true, api.State{Next: 5, Logs: []int{4}}},
		{"a second record without bytes", []string{first, ""}, false, api.State{}},
		{"a second record that is no edits, and a third one that is", []string{first, "\x41\x45", "\x40"}, false, api.State{}},
		{"edits of nothing that is there", []string{"\x41\x46\x43"}, false, api.State{}},
		{"edits that were done already", []string{first, first}, false, api.State{}},
		{"edits of no kind", []string{"\x41\x48\x43"}, false, api.State{}},
		{"edits that can't be done any more", []string{first, "\x41\x46\x43", "\x41\x46\x43"}, false, api.State{}},
		{"one of several edits that can't be done", []string{first, "\x42\x45\x49\x47\x44"}, false, api.State{}},
		{"a table of other keys than another one's", []string{"\x41\x41\x41\x41\x41\x41a\x41c", "\x41\x41\x42\x41\x41\x41d\x41e"}, true, api.State{Tables: []api.Table{
			{File: 1, Level: 1, Count: 1, Low: "a", High: "c"}, {File: 2, Level: 1, Count: 1, Low: "d", High: "e"}}}},
		{"a table of keys of another one", []string{"\x41\x41\x41\x41\x41\x41a\x41c", "\x41\x41\x42\x41\x41\x41c\x41e"}, false, api.State{}},
	} {
		d := laid(t, x.records...)
		if x.ok {
			wantLoad(t, x.name, d, x.want)
		} else {
			wantNoLoad(t, x.name, d, api.ErrCorrupt)
		}
	}
}

// P13.6: what stands behind the last whole frame isn't looked at; bytes that no frame begins are no manifest.
func TestLoadOfCutOffRoots(t *testing.T) {
	first, second := wal.Frame(manifest.Pack([]api.Edit{setNext(5)})), wal.Frame(manifest.Pack([]api.Edit{addLog(3)}))
	all := first + second
	for cut := range len(all) + 1 {
		d := newDisk(t, 9)
		wantOK(t, "Make", d.Make(api.Cold, 7))
		wantOK(t, "Add", d.Add(7, all[:cut]))
		wantOK(t, "Sync", d.Sync(7))
		wantOK(t, "Point", d.Point(7))
		name := fmt.Sprint(cut, " bytes")
		switch {
		case cut < len(first):
			wantNoLoad(t, name, d, api.ErrCorrupt)
		case cut < len(all):
			wantLoad(t, name, d, api.State{Next: 5})
		default:
			wantLoad(t, name, d, api.State{Next: 5, Logs: []int{3}})
		}
	}
}

// P13.6: what Load answers is new each time.
func TestLoadIsNew(t *testing.T) {
	d, b := pointed(t, several(t))
	one, _ := manifest.Load(d)
	two, _ := manifest.Load(d)
	scribble(one)
	wantState(t, "another answer", two, several(t))
	wantLoad(t, "Load again", d, several(t))
	wantState(t, "the book's", b.State(), several(t))
}

// P13.7: each function of a nil book.
func TestNilBook(t *testing.T) {
	var b *manifest.Book
	wantError(t, "Note", b.Note(addLog(1)), api.ErrArg)
	wantError(t, "Note of none", b.Note(), api.ErrArg)
	wantError(t, "Note of what can't be applied", b.Note(dropLog(1)), api.ErrArg)
	wantError(t, "Lay", b.Lay(), api.ErrArg)
	wantError(t, "Sync", b.Sync(), api.ErrArg)
	wantError(t, "Point", b.Point(), api.ErrArg)
	b.Undo()
	if n := b.File(); n != 0 {
		t.Errorf("File = %d", n)
	}
	wantState(t, "State", b.State(), api.State{})
}
