package table_test

import (
	"fmt"
	"math"
	"slices"
	"strings"
	"testing"

	"silo/api"
	"silo/block"
	"silo/bloom"
	"silo/crc"
	"silo/table"
)

// over answers a source of a text.
func over(s string) table.Source {
	return func(at, size int) (string, api.Errno) {
		if at < 0 || size < 0 || at > len(s) || size > len(s)-at {
			return "", api.ErrArg
		}
		return s[at : at+size], api.OK
	}
}

// some answers so many entries by rising keys, each third one gone.
func some(n int) []api.Entry {
	list := make([]api.Entry, n)
	for i := range list {
		list[i] = api.Entry{Key: fmt.Sprintf("key %06d", i), Val: fmt.Sprint("v", i)}
		if i%3 == 2 {
			list[i].Val, list[i].Gone = "", true
		}
	}
	return list
}

// long answers a text of so many bytes.
func long(n int) string { return strings.Repeat("m", n) }

// mustBuild answers a table's bytes.
func mustBuild(t *testing.T, list []api.Entry, each, per int) string {
	t.Helper()
	s, e := table.Build(list, each, per)
	if e != api.OK {
		t.Fatalf("Build of %d entries, %d in a block, %d bits = %d", len(list), each, per, e)
	}
	return s
}

// mustOpen answers the table with these bytes.
func mustOpen(t *testing.T, s string) *table.Table {
	t.Helper()
	x, e := table.Open(len(s), over(s))
	if e != api.OK {
		t.Fatalf("Open = %d", e)
	}
	return x
}

// wantRefused wants an Open of bytes to be refused.
func wantRefused(t *testing.T, name, s string, want api.Errno) {
	t.Helper()
	if x, e := table.Open(len(s), over(s)); x != nil || e != want {
		t.Errorf("%s: Open = %t, %d; want no table, %d", name, x != nil, e, want)
	}
	if _, e := paperOpen(len(s), over(s)); e != want {
		t.Errorf("%s: the other working-out tells %d; want %d", name, e, want)
	}
}

// The chapter's first example, byte by byte.
func TestExampleOfNone(t *testing.T) {
	index := crc.Put("\x40")
	filter := crc.Put("\x47\x48\x00\x00\x00\x00\x00\x00\x00\x00")
	foot := crc.Put("\x00\x00\x00\x00" + "\x00\x00\x00\x05" + "\x00\x00\x00\x00")
	want := index + filter + foot
	for _, list := range [][]api.Entry{nil, {}, make([]api.Entry, 0, 3)} {
		if s := mustBuild(t, list, 2, 10); s != want {
			t.Errorf("Build of no entries = %x; want %x", s, want)
		}
	}
	if len(want) != 35 {
		t.Fatalf("%d bytes; want 35", len(want))
	}
	x := mustOpen(t, want)
	if y, ok, e := x.Get("a"); ok || e != api.OK || y != (api.Entry{}) {
		t.Errorf("Get = %v, %t, %d", y, ok, e)
	}
	next := x.Walk("")
	for range 3 {
		if y, ok, e := next(); ok || e != api.OK || y != (api.Entry{}) {
			t.Errorf("Walk tells %v, %t, %d", y, ok, e)
		}
	}
	for y, e := range x.Scan("") {
		t.Errorf("Scan tells %v, %d", y, e)
	}
	if x.Count() != 0 || x.Reads() != 0 {
		t.Errorf("Count, Reads = %d, %d", x.Count(), x.Reads())
	}
}

// The chapter's second example, byte by byte.
func TestExampleOfThree(t *testing.T) {
	list := []api.Entry{{Key: "ab", Val: "x"}, {Key: "ac", Gone: true}, {Key: "b", Val: ""}}
	first := crc.Put("\x42" + "\x40\x42ab\x42x" + "\x41\x41c\x40")
	second := crc.Put("\x41" + "\x40\x41b\x41")
	index := crc.Put("\x42" + "\x40\x42ab\x43\x40\x4f" + "\x40\x41b\x43\x4f\x49")
	filter, e := bloom.Make(3, "ab", "ac", "b")
	if e != api.OK {
		t.Fatal(e)
	}
	foot := crc.Put("\x00\x00\x00\x18" + "\x00\x00\x00\x2a" + "\x00\x00\x00\x03")
	want := first + second + index + crc.Put(filter.Pack()) + foot
	if s := mustBuild(t, list, 2, 3); s != want {
		t.Fatalf("Build = %x; want %x", s, want)
	}
	x := mustOpen(t, want)
	for i, y := range list {
		if got, ok, e := x.Get(y.Key); !ok || e != api.OK || got != y {
			t.Errorf("Get(%q) = %v, %t, %d; want %v", y.Key, got, ok, e, y)
		}
		if x.Reads() != i+1 {
			t.Errorf("behind Get(%q) Reads = %d; want %d", y.Key, x.Reads(), i+1)
		}
	}
	n := 0
	for i := range 100 {
		key := fmt.Sprint("c", i)
		if filter.Has(key) {
			continue
		}
		n++
		if y, ok, e := x.Get(key); ok || e != api.OK || y != (api.Entry{}) || x.Reads() != 3 {
			t.Errorf("Get(%q) = %v, %t, %d, Reads %d", key, y, ok, e, x.Reads())
		}
	}
	if n < 50 {
		t.Errorf("the filter hasn't %d of 100 keys", n)
	}
}

// P9.1: how many entries a block may have, how many bits the filter for a key.
func TestBuildsArguments(t *testing.T) {
	list := some(3)
	for _, x := range []struct {
		each, per int
		want      api.Errno
	}{
		{1, 1, api.OK}, {256, 1, api.OK}, {1, 32, api.OK}, {256, 32, api.OK}, {2, 10, api.OK},
		{0, 1, api.ErrArg}, {257, 1, api.ErrArg}, {-1, 1, api.ErrArg}, {1 << 40, 1, api.ErrArg},
		{math.MinInt, 1, api.ErrArg}, {math.MaxInt, 1, api.ErrArg},
		{1, 0, api.ErrArg}, {1, 33, api.ErrArg}, {1, -1, api.ErrArg}, {1, 1 << 40, api.ErrArg},
		{1, math.MinInt, api.ErrArg}, {1, math.MaxInt, api.ErrArg},
		{0, 0, api.ErrArg}, {257, 33, api.ErrArg},
	} {
		for _, list := range [][]api.Entry{nil, list} {
			s, e := table.Build(list, x.each, x.per)
			if e != x.want {
				t.Errorf("Build of %d entries, %d in a block, %d bits = %d; want %d", len(list), x.each, x.per, e, x.want)
			}
			want := ""
			if x.want == api.OK {
				want = lay(list, x.each, x.per).bytes()
			}
			if s != want {
				t.Errorf("Build of %d entries, %d in a block, %d bits = %x; want %x", len(list), x.each, x.per, s, want)
			}
		}
	}
}

// P9.1: entries that block.Check refuses; an each or a per that may not be is told ahead of that.
func TestBuildsEntries(t *testing.T) {
	many := some(65537)
	for _, x := range []struct {
		name string
		list []api.Entry
		want api.Errno
	}{
		{"falling", []api.Entry{{Key: "b"}, {Key: "a"}}, api.ErrArg},
		{"equal", []api.Entry{{Key: "a"}, {Key: "a"}}, api.ErrArg},
		{"falling from one block to the next", []api.Entry{{Key: "a"}, {Key: "c"}, {Key: "b"}, {Key: "d"}}, api.ErrArg},
		{"equal from one block to the next", []api.Entry{{Key: "a"}, {Key: "b"}, {Key: "b"}, {Key: "c"}}, api.ErrArg},
		{"gone with a value", []api.Entry{{Key: "a", Val: "x", Gone: true}}, api.ErrArg},
		{"a long key", []api.Entry{{Key: long(65537)}}, api.ErrLong},
		{"a long value", []api.Entry{{Key: "a", Val: long(65537)}}, api.ErrLong},
		{"a long value, then a falling key", []api.Entry{{Key: "b", Val: long(65537)}, {Key: "a"}}, api.ErrLong},
		{"a falling key, then a long value", []api.Entry{{Key: "b"}, {Key: "a"}, {Key: "c", Val: long(65537)}}, api.ErrArg},
		{"too many", many, api.ErrLong},
		{"too many, falling", slices.Repeat(some(1), 65537), api.ErrLong},
	} {
		if e := block.Check(x.list); e != x.want {
			t.Errorf("%s: Check = %d; want %d", x.name, e, x.want)
		}
		for _, each := range []int{1, 2, 256} {
			if s, e := table.Build(x.list, each, 1); s != "" || e != x.want {
				t.Errorf("%s: Build = %s, %d; want %d", x.name, short(s), e, x.want)
			}
		}
		for _, y := range [][2]int{{0, 1}, {257, 1}, {1, 0}, {1, 33}} {
			if s, e := table.Build(x.list, y[0], y[1]); s != "" || e != api.ErrArg {
				t.Errorf("%s: Build with %v = %s, %d; want ErrArg", x.name, y, short(s), e)
			}
		}
	}
	for _, list := range [][]api.Entry{many[:65536], {{}}, {{Key: long(65536), Val: long(65536)}, {Key: "n", Gone: true}}} {
		for _, each := range []int{1, 256} {
			s := mustBuild(t, list, each, 1)
			if s != lay(list, each, 1).bytes() {
				t.Errorf("Build of %d entries isn't laid as it should be", len(list))
			}
			wantJust(t, "a great one", s, each, list, []string{"", list[0].Key, list[len(list)-1].Key, "zz", long(65537)})
		}
	}
}

// P9.1: as many entries as fill blocks, one fewer, one more.
func TestBuildsBlocks(t *testing.T) {
	for _, each := range []int{1, 2, 3, 16, 255, 256} {
		for _, n := range []int{0, 1, 2, each - 1, each, each + 1, 2*each - 1, 2 * each, 2*each + 1} {
			for _, per := range []int{1, 10, 32} {
				list := some(n)
				s := mustBuild(t, list, each, per)
				x := lay(list, each, per)
				if s != x.bytes() {
					t.Fatalf("Build of %d entries, %d in a block, %d bits = %x; want %x", n, each, per, s, x.bytes())
				}
				if blocks := (n + each - 1) / each; len(x.blocks) != blocks {
					t.Fatalf("%d entries, %d in a block, are %d blocks", n, each, len(x.blocks))
				}
			}
			list := some(n)
			wantJust(t, "table", mustBuild(t, list, each, 10), each, list, []string{"", "key", "key 000000", "key 000001", "key 0000010", "zz"})
		}
	}
}

// Rule 4: what is handed in to Build isn't changed, its spare room neither; and what is written into it later isn't seen.
func TestBuildLeavesItsList(t *testing.T) {
	room := some(9)
	ahead := slices.Clone(room)
	s := mustBuild(t, room[:5], 2, 10)
	if !slices.Equal(room, ahead) {
		t.Errorf("Build has changed what was handed in: %v", room)
	}
	x := mustOpen(t, s)
	for i := range room {
		room[i] = api.Entry{Key: "other"}
	}
	if y, ok, e := x.Get(ahead[3].Key); !ok || e != api.OK || y != ahead[3] {
		t.Errorf("Get = %v, %t, %d", y, ok, e)
	}
	if again := mustBuild(t, ahead[:5], 2, 10); again != s {
		t.Error("two Builds of the same entries aren't the same bytes")
	}
}

// P9.2: sizes, and a nil read.
func TestOpensArguments(t *testing.T) {
	asked := 0
	read := func(int, int) (string, api.Errno) {
		asked++
		return "", api.ErrDown
	}
	for _, x := range []struct {
		size int
		read table.Source
		want api.Errno
		asks int
	}{
		{-1, read, api.ErrArg, 0},
		{math.MinInt, read, api.ErrArg, 0},
		{-1, nil, api.ErrArg, 0},
		{0, nil, api.ErrArg, 0},
		{15, nil, api.ErrArg, 0},
		{16, nil, api.ErrArg, 0},
		{100, nil, api.ErrArg, 0},
		{0, read, api.ErrShort, 0},
		{1, read, api.ErrShort, 0},
		{15, read, api.ErrShort, 0},
		{16, read, api.ErrDown, 1},
		{17, read, api.ErrDown, 1},
		{math.MaxInt, read, api.ErrDown, 1},
	} {
		asked = 0
		if y, e := table.Open(x.size, x.read); y != nil || e != x.want || asked != x.asks {
			t.Errorf("Open(%d, nil: %t) = %t, %d, asked %d times; want %d, %d times", x.size, x.read == nil, y != nil, e, asked, x.want, x.asks)
		}
	}
}

// P9.2: Open reads the foot, the index, the filter, and no block.
func TestWhatOpenReads(t *testing.T) {
	for _, n := range []int{0, 1, 5} {
		list := some(n)
		x := lay(list, 2, 10)
		s := x.bytes()
		var got [][2]int
		if _, e := table.Open(len(s), asked(over(s), &got)); e != api.OK {
			t.Fatal(e)
		}
		want := [][2]int{{len(s) - 16, 16}, {x.foot[0], x.foot[1] - x.foot[0]}, {x.foot[1], len(x.filter)}}
		if !slices.Equal(got, want) {
			t.Errorf("Open read %v; want %v", got, want)
		}
	}
}

// P9.2: a read that refuses one part alone, or from one part on.
func TestOpenRefusedByRead(t *testing.T) {
	list := some(5)
	x := lay(list, 2, 10)
	s := x.bytes()
	for i, part := range [][2]int{{len(s) - 16, 16}, {x.foot[0], x.foot[1] - x.foot[0]}, {x.foot[1], len(x.filter)}} {
		for _, want := range []api.Errno{api.ErrDown, api.ErrNone, api.ErrArg, 77, -1} {
			asked := 0
			read := func(at, size int) (string, api.Errno) {
				asked++
				text, e := over(s)(at, size)
				if at == part[0] && size == part[1] {
					return text, want
				}
				return text, e
			}
			if y, e := table.Open(len(s), read); y != nil || e != want || asked != i+1 {
				t.Errorf("Open, part %d refused: %t, %d, asked %d times; want %d, %d times", i, y != nil, e, asked, want, i+1)
			}
		}
	}
}

// P9.2: the foot.
func TestOpensFoot(t *testing.T) {
	ahead := "0123456789"
	for _, x := range []struct {
		name, s string
		want    api.Errno
	}{
		{"a sum that doesn't hold", ahead + strings.Repeat("x", 16), api.ErrSum},
		{"nothing but a foot's numbers", footOf(0, 0, 0)[:12] + "abcd", api.ErrSum},
		{"the index behind the filter", ahead + footOf(6, 5, 0), api.ErrForm},
		{"the index far behind the filter", ahead + footOf(1<<32-1, 5, 0), api.ErrForm},
		{"the index behind the filter, both behind the foot", ahead + footOf(1<<32-1, 1<<32-2, 0), api.ErrForm},
		{"the filter behind the foot's beginning", ahead + footOf(0, 11, 0), api.ErrForm},
		{"the filter far behind it", ahead + footOf(0, 1<<32-1, 0), api.ErrForm},
		{"both behind the foot's beginning", ahead + footOf(11, 11, 0), api.ErrForm},
		{"the foot alone, the filter within it", footOf(0, 1, 0), api.ErrForm},
		{"the foot alone", footOf(0, 0, 0), api.ErrShort},
		{"the index of no bytes", ahead + footOf(5, 5, 0), api.ErrShort},
		{"the index of three bytes", ahead + footOf(7, 10, 0), api.ErrShort},
		{"the index without a sum", ahead + footOf(0, 10, 0), api.ErrSum},
	} {
		wantRefused(t, x.name, x.s, x.want)
	}
}

// A source that answers more or fewer bytes for the foot, with a right sum, makes no table either.
func TestFootOfAnotherLength(t *testing.T) {
	s := mustBuild(t, nil, 1, 1)
	for _, x := range []struct {
		foot string
		want api.Errno
	}{
		{"", api.ErrShort},
		{"abc", api.ErrShort},
		{"abcd", api.ErrSum},
		{crc.Put(""), api.ErrShort},
		{crc.Put("\x00"), api.ErrShort},
		{footOf(0, 5), api.ErrShort},
		{crc.Put(footOf(0, 5, 0)[:11]), api.ErrShort},
		{footOf(0, 5, 0), api.OK},
		{crc.Put(footOf(0, 5, 0)[:12] + "\x00"), api.ErrTail},
		{footOf(0, 5, 0, 0), api.ErrTail},
		{footOf(0, 5, 0) + "\x00", api.ErrSum},
	} {
		asked := 0
		read := func(at, size int) (string, api.Errno) {
			asked++
			if at == len(s)-16 {
				return x.foot, api.OK
			}
			return over(s)(at, size)
		}
		if y, e := table.Open(len(s), read); (y != nil) != (x.want == api.OK) || e != x.want {
			t.Errorf("a foot of %x: Open = %t, %d; want %d", x.foot, y != nil, e, x.want)
		}
		if x.want != api.OK && asked != 1 {
			t.Errorf("a foot of %x: Open has asked %d times", x.foot, asked)
		}
	}
}

// withIndex answers a table of two blocks, of 20 bytes in all, with another index and how many entries it is told to have.
func withIndex(count int, index ...api.Entry) string {
	x := lay([]api.Entry{{Key: "a", Val: "1"}, {Key: "b", Val: "2"}}, 1, 10)
	x.index, x.foot[2] = index, count
	return x.fit().bytes()
}

// withoutBlocks answers a table of no blocks, but perhaps with an index of some, and how many entries it is told to have.
func withoutBlocks(count int, index ...api.Entry) string {
	x := lay(nil, 1, 10)
	x.index, x.foot[2] = index, count
	return x.fit().bytes()
}

// P9.2: the index's entries.
func TestOpensIndex(t *testing.T) {
	a, b := api.Entry{Key: "a", Val: place(0, 10)}, api.Entry{Key: "b", Val: place(10, 10)}
	if s := withIndex(2, a, b); s != mustBuild(t, []api.Entry{{Key: "a", Val: "1"}, {Key: "b", Val: "2"}}, 1, 10) {
		t.Fatalf("Build isn't laid so: %x", s)
	}
	of := func(val string) api.Entry { return api.Entry{Key: "b", Val: val} }
	for _, x := range []struct {
		name string
		b    api.Entry
		want api.Errno
	}{
		{"gone", api.Entry{Key: "b", Gone: true}, api.ErrShort},
		{"empty", of(""), api.ErrShort},
		{"the first Count cut off", of("\x01"), api.ErrShort},
		{"the first Count not in its one form", of("\x00\x4a\x4a"), api.ErrForm},
		{"the first Count below 0", of("\x80\x4a"), api.ErrForm},
		{"the first Count too great a byte", of("\xc0\x4a"), api.ErrForm},
		{"no second Count", of("\x4a"), api.ErrShort},
		{"the second Count cut off", of("\x4a\x01"), api.ErrShort},
		{"the second Count not in its one form", of("\x4a\x00\x4a"), api.ErrForm},
		{"the second Count below 0", of("\x4a\x80"), api.ErrForm},
		{"something left", of("\x4a\x4a\x40"), api.ErrForm},
		{"something left that is no number", of("\x4a\x4a\xff"), api.ErrForm},
		{"a wrong place, the second Count cut off", of("\x4b\x01"), api.ErrShort},
		{"a place behind the end of the one ahead", of(place(11, 9)), api.ErrForm},
		{"a place ahead of the end of the one ahead", of(place(9, 11)), api.ErrForm},
		{"a place at the beginning", of(place(0, 20)), api.ErrForm},
		{"the greatest place", of(place(math.MaxInt, 1)), api.ErrForm},
		{"an end behind the index's beginning", of(place(10, 11)), api.ErrForm},
		{"an end within the filter", of(place(10, 40)), api.ErrForm},
		{"the greatest size", of(place(10, math.MaxInt)), api.ErrForm},
		{"a size by which the end goes below 0", of(place(10, math.MaxInt-9)), api.ErrForm},
	} {
		wantRefused(t, x.name, withIndex(2, a, x.b), x.want)
		// What is wrong in one entry is told ahead of what is wrong in the next one, and of the number of entries.
		wantRefused(t, x.name+", and a third block", withIndex(0, a, x.b, api.Entry{Key: "c", Gone: true}), x.want)
		wantRefused(t, x.name+", and a third block of another error", withIndex(0, a, x.b, api.Entry{Key: "c", Val: place(3, 3)}), x.want)
	}
	for _, x := range []struct {
		name  string
		third []api.Entry
		want  api.Errno
	}{
		{"an end ahead of the index's beginning", nil, api.ErrForm},
		{"and then an entry that is gone", []api.Entry{{Key: "c", Gone: true}}, api.ErrShort},
		{"and then one that goes up to the index", []api.Entry{{Key: "c", Val: place(19, 1)}}, api.OK},
	} {
		s := withIndex(2, append([]api.Entry{a, of(place(10, 9))}, x.third...)...)
		if _, e := table.Open(len(s), over(s)); e != x.want {
			t.Errorf("%s: Open = %d; want %d", x.name, e, x.want)
		}
	}
	for _, x := range []struct {
		name string
		s    string
		want api.Errno
	}{
		{"a first block that doesn't begin at 0", withIndex(2, api.Entry{Key: "a", Val: place(1, 9)}, b), api.ErrForm},
		{"no block, the index not at 0", withIndex(0), api.ErrForm},
		{"no block, the index not at 0, and entries", withIndex(2), api.ErrForm},
		{"no block, but entries", withoutBlocks(1), api.ErrForm},
		{"no block, but as many entries as a number tells", withoutBlocks(1<<32 - 1), api.ErrForm},
		{"no block, no entries", withoutBlocks(0), api.OK},
		{"one block of no bytes", withoutBlocks(1, api.Entry{Key: "a", Val: place(0, 0)}), api.OK},
		{"one block of no bytes, no entries", withoutBlocks(0, api.Entry{Key: "a", Val: place(0, 0)}), api.ErrForm},
		{"one block too few", withIndex(2, a), api.ErrForm},
		{"one block that has all", withIndex(2, api.Entry{Key: "a", Val: place(0, 20)}), api.OK},
		{"a block of no bytes behind", withIndex(2, a, b, api.Entry{Key: "c", Val: place(20, 0)}), api.OK},
		{"a block of one byte too many behind", withIndex(2, a, b, api.Entry{Key: "c", Val: place(20, 1)}), api.ErrForm},
		{"blocks, but no entries", withIndex(0, a, b), api.ErrForm},
		{"blocks, and another number of entries", withIndex(1, a, b), api.OK},
		{"blocks, and the greatest number of entries", withIndex(1<<32-1, a, b), api.OK},
	} {
		if x.want != api.OK {
			wantRefused(t, x.name, x.s, x.want)
			continue
		}
		if e := wantAlike(t, x.name, len(x.s), over(x.s), "", "a", "aa", "b", "c", "d"); e != api.OK {
			t.Errorf("%s: Open = %d", x.name, e)
		}
	}
}

// P9.2: the errors of block.Open, of crc.Take and of bloom.Open, told in the order in which the parts are read.
func TestOpensParts(t *testing.T) {
	filter := lay(nil, 1, 10).filter
	index := crc.Put("\x40")
	for _, x := range []struct {
		name, index, filter string
		want                api.Errno
	}{
		{"right ones", index, filter, api.OK},
		{"an index of no bytes", "", filter, api.ErrShort},
		{"an index that is cut off", index[:3], filter, api.ErrShort},
		{"an index whose sum doesn't hold", "\x41" + index[1:], filter, api.ErrSum},
		{"an index without a number", crc.Put(""), filter, api.ErrShort},
		{"an index with too few entries", crc.Put("\x41"), filter, api.ErrShort},
		{"an index not in its one form", crc.Put("\x80"), filter, api.ErrForm},
		{"an index whose keys don't rise", crc.Put("\x42" + "\x40\x41b\x41" + "\x40\x41a\x41"), filter, api.ErrForm},
		{"an index with a long key", crc.Put("\x41" + "\x40" + number(65537) + long(65537) + "\x41"), filter, api.ErrLong},
		{"an index with something behind it", crc.Put("\x40\x40"), filter, api.ErrTail},
		{"a filter of no bytes", index, "", api.ErrShort},
		{"a filter of three bytes", index, "abc", api.ErrShort},
		{"a filter that is cut off", index, filter[:len(filter)-1], api.ErrSum},
		{"a filter whose sum doesn't hold", index, "\x46" + filter[1:], api.ErrSum},
		{"a filter without its hashes", index, crc.Put(""), api.ErrShort},
		{"a filter of no hashes", index, crc.Put("\x40\x48--------"), api.ErrForm},
		{"a filter of too many hashes", index, crc.Put("\x49\x48--------"), api.ErrForm},
		{"a filter without bits", index, crc.Put("\x41\x40"), api.ErrForm},
		{"a filter of too few bits", index, crc.Put("\x41\x47-------"), api.ErrForm},
		{"a filter with something behind it", index, crc.Put("\x41\x48--------\x40"), api.ErrTail},
		{"an index that tells of a block, then a filter whose sum doesn't hold", mustPack(api.Entry{Key: "a", Val: place(0, 1)}), "\x46" + filter[1:], api.ErrForm},
		{"an index with a value cut off, then a filter whose sum doesn't hold", mustPack(api.Entry{Key: "a"}), "\x46" + filter[1:], api.ErrShort},
		{"an index with something behind it, then a filter of no bytes", crc.Put("\x40\x40"), "", api.ErrTail},
		{"an index that tells of a block, but no entries, then a filter of no bytes", mustPack(api.Entry{Key: "a", Val: place(0, 0)}), "", api.ErrForm},
	} {
		s := x.index + x.filter + footOf(0, len(x.index), 0)
		y, e := table.Open(len(s), over(s))
		if e != x.want || (y != nil) != (x.want == api.OK) {
			t.Errorf("%s: Open = %t, %d; want %d", x.name, y != nil, e, x.want)
		}
		if _, e := paperOpen(len(s), over(s)); e != x.want {
			t.Errorf("%s: the other working-out tells %d; want %d", x.name, e, x.want)
		}
	}
}

// P9.2: an index of as many entries as a block may have, and of one more.
func TestOpensLongIndex(t *testing.T) {
	for n, want := range map[int]api.Errno{65536: api.ErrShort, 65537: api.ErrLong} {
		body, ahead := number(n), ""
		var list strings.Builder
		for i := range n {
			key := string([]byte{byte(i >> 16), byte(i >> 8), byte(i)})
			same := 0
			for same < len(ahead) && ahead[same] == key[same] {
				same++
			}
			list.WriteString(place(same, 3-same) + key[same:] + number(1))
			ahead = key
		}
		index := crc.Put(body + list.String())
		wantRefused(t, fmt.Sprint(n, " entries"), index+lay(nil, 1, 1).filter+footOf(0, len(index), n), want)
	}
}

// keyBetween answers a key between two others of which a table wasn't made, and which its filter has, or hasn't.
func keyBetween(t *testing.T, list []api.Entry, per int, below, above string, has bool) string {
	t.Helper()
	body, _ := crc.Take(lay(list, 1, per).filter)
	f, e := bloom.Open(body)
	if e != api.OK {
		t.Fatal(e)
	}
	for i := range 100000 {
		if key := fmt.Sprint(below, "-", i); f.Has(key) == has && key > below && key < above {
			return key
		}
	}
	t.Fatal("no such key")
	return ""
}

// P9.3: keys that are there, and such as are not, with how many blocks are read for each.
func TestGet(t *testing.T) {
	list := []api.Entry{{Key: "b", Val: "1"}, {Key: "d", Val: ""}, {Key: "f", Gone: true}, {Key: "h", Val: "4"}, {Key: "j", Val: long(3000)}}
	const per = 3
	s := mustBuild(t, list, 2, per)
	x := mustOpen(t, s)
	for _, y := range list {
		wantGet(t, "there", x, y.Key, answer{y, true, api.OK, 1})
	}
	for _, y := range []struct{ name, below, above string }{
		{"between two of a block", "b", "d"},
		{"behind the last one of a block", "d", "f"},
		{"between two of another block", "f", "h"},
		{"behind the last one of another block", "h", "j"},
		{"above all", "j", "k"},
		{"far above all", "x", "y"},
	} {
		wantGet(t, y.name+", by chance in the filter", x, keyBetween(t, list, per, y.below, y.above, true), answer{reads: 1})
		wantGet(t, y.name, x, keyBetween(t, list, per, y.below, y.above, false), answer{})
	}
	wantGet(t, "below all, by chance in the filter", x, keyBetween(t, list, per, "a", "b", true), answer{})
	wantGet(t, "below all", x, keyBetween(t, list, per, "a", "b", false), answer{})
	wantGet(t, "empty", x, "", answer{})
	wantGet(t, "longer than keys are", x, "b"+long(70000), answer{})
}

// P9.3: the filter is asked, whatever the blocks have.
func TestGetAsksTheFilter(t *testing.T) {
	list := some(6)
	x := lay(list, 2, 10)
	x.filter = lay(nil, 1, 10).filter
	y := mustOpen(t, x.bytes())
	for _, z := range list {
		wantGet(t, "the filter of no keys", y, z.Key, answer{})
		wantWalk(t, "the filter of no keys", y, z.Key, walked(list, 2, z.Key), answer{})
	}
	x.filter = crc.Put("\x41\x48" + strings.Repeat("\xff", 8))
	y = mustOpen(t, x.bytes())
	for _, z := range list {
		wantGet(t, "the filter of all keys", y, z.Key, answer{z, true, api.OK, 1})
	}
	wantGet(t, "the filter of all keys", y, "a", answer{})
	wantGet(t, "the filter of all keys", y, "z", answer{reads: 1})
	empty := lay(nil, 1, 10)
	empty.filter = x.filter
	wantGet(t, "no block, but the filter of all keys", mustOpen(t, empty.bytes()), "a", answer{})
}

// walked answers what a Walk tells of entries with so many in a block, from a key on, the end included.
func walked(list []api.Entry, each int, key string) []answer {
	from := 0 // the block that is read first
	for i := 0; i < len(list); i += each {
		if list[i].Key <= key {
			from = i / each
		}
	}
	var told []answer
	read := from
	for i, y := range list {
		if y.Key >= key {
			told = append(told, answer{y, true, api.OK, i/each + 1 - read})
			read = i/each + 1
		}
	}
	return append(told, answer{reads: (len(list)+each-1)/each - read})
}

// broken answers a table of four blocks, the third of which is laid wrong: with another one's bytes, or refused by read.
func broken(t *testing.T, list []api.Entry, third string, refused api.Errno) (*table.Table, int) {
	t.Helper()
	x := lay(list, 2, 10)
	at := len(x.blocks[0]) + len(x.blocks[1])
	x.blocks[2] = third
	x.index[2].Val = place(at, len(third))
	x.index[3].Val = place(at+len(third), len(x.blocks[3]))
	s := x.fit().bytes()
	y, e := table.Open(len(s), func(from, size int) (string, api.Errno) {
		text, e := over(s)(from, size)
		if from == at && refused != api.OK {
			return text, refused
		}
		return text, e
	})
	if e != api.OK {
		t.Fatalf("Open = %d", e)
	}
	return y, at
}

// P9.3, P9.4: each refusal of a block, as Get, Walk and Scan tell it.
func TestBrokenBlock(t *testing.T) {
	list := some(8)
	right := mustPack(list[4:6]...)
	for _, x := range []struct {
		name    string
		third   string
		refused api.Errno
		want    api.Errno
	}{
		{"refused by read", right, api.ErrDown, api.ErrDown},
		{"refused by read as nobody refuses", right, -5, -5},
		{"broken and refused by read", "abcd", api.ErrNone, api.ErrNone},
		{"of no bytes", "", api.OK, api.ErrShort},
		{"of three bytes", "abc", api.OK, api.ErrShort},
		{"whose sum doesn't hold", right[:5] + "?" + right[6:], api.OK, api.ErrSum},
		{"cut off", crc.Put("\x42"), api.OK, api.ErrShort},
		{"not in its one form", crc.Put("\x80"), api.OK, api.ErrForm},
		{"with something behind it", crc.Put("\x40\x40"), api.OK, api.ErrTail},
		{"with a long value", crc.Put("\x41\x40\x41a" + number(65538) + long(65537)), api.OK, api.ErrLong},
		{"without entries", mustPack(), api.OK, api.ErrForm},
		{"with a key below the index's", mustPack(append([]api.Entry{{Key: "key 000003~"}}, list[4:6]...)...), api.OK, api.ErrForm},
		{"with a key above the index's", mustPack(list[5]), api.OK, api.ErrForm},
	} {
		y, _ := broken(t, list, x.third, x.refused)
		for i, z := range list {
			want := answer{z, true, api.OK, 1}
			if i == 4 || i == 5 {
				want = answer{e: x.want, reads: 1}
			}
			wantGet(t, x.name, y, z.Key, want)
			told := []answer{{e: x.want, reads: 1}}
			if i < 4 {
				told = append(walked(list[:4], 2, z.Key), answer{e: x.want, reads: 1})
				told = slices.Delete(told, len(told)-2, len(told)-1)
			}
			if i >= 6 {
				wantWalk(t, x.name, y, z.Key, walked(list, 2, z.Key), answer{})
				wantScan(t, x.name, y, z.Key, walked(list, 2, z.Key))
				continue
			}
			wantWalk(t, x.name, y, z.Key, told, answer{e: x.want})
			wantScan(t, x.name, y, z.Key, told)
		}
	}
}

// P9.3: what the block alone could tell isn't asked: a block that is right but for its order with the next one is told as it stands.
func TestBlockThatReachesTooFar(t *testing.T) {
	list := some(8)
	y, _ := broken(t, list, mustPack(list[4], api.Entry{Key: "z", Val: "?"}), api.OK)
	wantGet(t, "the key that was there", y, list[5].Key, answer{reads: 1})
	wantGet(t, "a key of the next block", y, list[6].Key, answer{list[6], true, api.OK, 1})
	want := walked(slices.Concat(list[:5], []api.Entry{{Key: "z", Val: "?"}}, list[6:]), 2, "")
	wantWalk(t, "walked", y, "", want, answer{})
	wantScan(t, "walked", y, "", want)
}

// P9.4: from keys below, among, equal to and above those of tables of no, one and many blocks.
func TestWalkAndScan(t *testing.T) {
	for _, n := range []int{0, 1, 2, 3, 4, 5, 9, 20} {
		for _, each := range []int{1, 2, 3, 4, 256} {
			list := some(n)
			x := mustOpen(t, mustBuild(t, list, each, 10))
			keys := []string{"", "a", "key", "key 000000", "zz", long(70000)}
			for _, y := range list {
				keys = append(keys, y.Key, y.Key+"\x00", y.Key+"~", y.Key[:len(y.Key)-1])
			}
			for _, key := range keys {
				name := fmt.Sprintf("%d entries, %d in a block", n, each)
				told := walked(list, each, key)
				wantWalk(t, name, x, key, told, answer{})
				wantScan(t, name, x, key, told)
			}
		}
	}
}

// P9.4: blocks are read as they are needed, by a Scan too, and by none that isn't ranged over.
func TestReadsAsNeeded(t *testing.T) {
	list := some(7)
	x := mustOpen(t, mustBuild(t, list, 2, 10))
	all := x.Scan("")
	next := x.Walk("")
	if x.Reads() != 0 {
		t.Errorf("%d blocks were read ahead of the first entry", x.Reads())
	}
	n := 0
	for y, e := range all {
		if e != api.OK || y != list[n] || x.Reads() != n/2+1 {
			t.Errorf("Scan tells %v, %d behind %d blocks; want %v behind %d", y, e, x.Reads(), list[n], n/2+1)
		}
		n++
		if n == 5 {
			break
		}
	}
	if n != 5 || x.Reads() != 3 {
		t.Errorf("a Scan that was left behind 5 entries told %d, and read %d blocks", n, x.Reads())
	}
	// Ranged over once more it begins anew.
	n = 0
	for y, e := range all {
		if e != api.OK || y != list[n] || x.Reads() != 3+n/2+1 {
			t.Errorf("Scan tells %v, %d behind %d blocks", y, e, x.Reads())
		}
		n++
	}
	if n != 7 || x.Reads() != 7 {
		t.Errorf("Scan told %d entries, Reads = %d", n, x.Reads())
	}
	if y, ok, e := next(); y != list[0] || !ok || e != api.OK || x.Reads() != 8 {
		t.Errorf("Walk tells %v, %t, %d, Reads = %d", y, ok, e, x.Reads())
	}
}

// P9.4: a Scan that is left calls on nobody any more, be it at an entry, or at an error.
func TestScanThatIsLeft(t *testing.T) {
	list := some(8)
	y, _ := broken(t, list, "", api.OK)
	for stop := 1; stop <= 5; stop++ {
		n := 0
		ahead := y.Reads()
		y.Scan("")(func(z api.Entry, e api.Errno) bool {
			n++
			if n <= 4 && (z != list[n-1] || e != api.OK) || n == 5 && (z != api.Entry{} || e != api.ErrShort) {
				t.Errorf("Scan tells %v, %d", z, e)
			}
			return n < stop
		})
		if n != stop || y.Reads()-ahead != (stop+1)/2 {
			t.Errorf("a Scan that was left at %d went on to %d, and read %d blocks", stop, n, y.Reads()-ahead)
		}
	}
	n := 0
	y.Scan("")(func(api.Entry, api.Errno) bool {
		n++
		return true
	})
	if n != 5 {
		t.Errorf("a Scan that ends with an error told %d things; want 5", n)
	}
}

// P9.4: two Walks, a Scan and Gets side by side don't disturb one another; Reads counts all their blocks.
func TestSideBySide(t *testing.T) {
	list := some(6)
	x := mustOpen(t, mustBuild(t, list, 2, 10))
	first, second := x.Walk(""), x.Walk(list[1].Key)
	reads := 0
	want := func(next func() (api.Entry, bool, api.Errno), i, blocks int) {
		t.Helper()
		reads += blocks
		y, ok, e := next()
		if i < len(list) && (y != list[i] || !ok) || i >= len(list) && (y != api.Entry{} || ok) || e != api.OK || x.Reads() != reads {
			t.Errorf("Walk tells %v, %t, %d, Reads %d; want entry %d, Reads %d", y, ok, e, x.Reads(), i, reads)
		}
	}
	want(first, 0, 1)
	want(second, 1, 1)
	want(first, 1, 0)
	want(second, 2, 1)
	wantGet(t, "between", x, list[5].Key, answer{list[5], true, api.OK, 1})
	reads++
	n := 0
	for y, e := range x.Scan(list[2].Key) {
		if y != list[2+n] || e != api.OK {
			t.Errorf("Scan tells %v, %d", y, e)
		}
		reads += 1 - n%2
		n++
		wantGet(t, "within", x, list[0].Key, answer{list[0], true, api.OK, 1})
		reads++
		if x.Reads() != reads {
			t.Errorf("Reads = %d; want %d", x.Reads(), reads)
		}
	}
	for i, blocks := range []int{1, 0, 1, 0, 0, 0} {
		want(first, 2+i, blocks)
	}
	for i, blocks := range []int{0, 1, 0, 0, 0} {
		want(second, 3+i, blocks)
	}
	if x.Count() != 6 {
		t.Errorf("Count = %d", x.Count())
	}
}

// P9.4: an error stays, also where the bytes would be right later; a new Walk asks anew.
func TestErrorStays(t *testing.T) {
	list := some(6)
	s := mustBuild(t, list, 2, 10)
	refused := api.OK
	x, e := table.Open(len(s), func(at, size int) (string, api.Errno) {
		if refused != api.OK {
			return "", refused
		}
		return over(s)(at, size)
	})
	if e != api.OK {
		t.Fatal(e)
	}
	next := x.Walk("")
	for i := range 2 {
		if y, ok, e := next(); y != list[i] || !ok || e != api.OK {
			t.Errorf("Walk tells %v, %t, %d", y, ok, e)
		}
	}
	refused = api.ErrDown
	if y, ok, e := next(); ok || e != api.ErrDown || y != (api.Entry{}) {
		t.Errorf("Walk tells %v, %t, %d; want ErrDown", y, ok, e)
	}
	wantGet(t, "refused", x, list[0].Key, answer{e: api.ErrDown, reads: 1})
	refused = api.ErrFull
	ahead := x.Reads()
	for range 3 {
		if y, ok, e := next(); ok || e != api.ErrDown || y != (api.Entry{}) {
			t.Errorf("Walk tells %v, %t, %d; want ErrDown again", y, ok, e)
		}
		refused = api.OK
	}
	if x.Reads() != ahead {
		t.Error("a Walk that was refused has read on")
	}
	wantWalk(t, "a new one", x, "", walked(list, 2, ""), answer{})
	wantGet(t, "no more refused", x, list[0].Key, answer{list[0], true, api.OK, 1})
}

// P9.4: the end stays too, and reads nothing.
func TestEndStays(t *testing.T) {
	list := some(2)
	s := mustBuild(t, list, 2, 10)
	reads := 0
	x, e := table.Open(len(s), func(at, size int) (string, api.Errno) {
		reads++
		if reads > 4 {
			return "", api.ErrDown
		}
		return over(s)(at, size)
	})
	if e != api.OK {
		t.Fatal(e)
	}
	next := x.Walk("")
	for i := range 6 {
		y, ok, e := next()
		if ok != (i < 2) || e != api.OK || i >= 2 && y != (api.Entry{}) {
			t.Errorf("Walk tells %v, %t, %d", y, ok, e)
		}
	}
	if reads != 4 || x.Reads() != 1 {
		t.Errorf("read was asked %d times, Reads = %d", reads, x.Reads())
	}
}

// P9.5: Count is what the foot says, whatever the blocks have; nothing but blocks counts for Reads.
func TestCount(t *testing.T) {
	list := some(5)
	for _, n := range []int{1, 4, 5, 6, 65537, 1<<31 - 1, 1 << 31, 1<<32 - 1} {
		x := lay(list, 2, 10)
		x.foot[2] = n
		y := mustOpen(t, x.bytes())
		if y.Count() != n || y.Reads() != 0 {
			t.Errorf("Count, Reads = %d, %d; want %d, 0", y.Count(), y.Reads(), n)
		}
		wantWalk(t, "counted otherwise", y, "", walked(list, 2, ""), answer{})
		if y.Count() != n || y.Reads() != 3 {
			t.Errorf("Count, Reads = %d, %d; want %d, 3", y.Count(), y.Reads(), n)
		}
	}
}

// P9.6: each method of a nil table.
func TestNil(t *testing.T) {
	var x *table.Table
	for _, key := range []string{"", "a", long(70000)} {
		if y, ok, e := x.Get(key); ok || e != api.OK || y != (api.Entry{}) {
			t.Errorf("Get = %v, %t, %d", y, ok, e)
		}
		next := x.Walk(key)
		for range 3 {
			if y, ok, e := next(); ok || e != api.OK || y != (api.Entry{}) {
				t.Errorf("Walk tells %v, %t, %d", y, ok, e)
			}
		}
		for y, e := range x.Scan(key) {
			t.Errorf("Scan tells %v, %d", y, e)
		}
	}
	if x.Count() != 0 || x.Reads() != 0 {
		t.Errorf("Count, Reads = %d, %d", x.Count(), x.Reads())
	}
}

// P9.8: any one byte another one, by any number.
func TestTurnedBytes(t *testing.T) {
	for _, list := range [][]api.Entry{nil, {{}}, some(1), some(3), {{Key: "ab", Val: "x"}, {Key: "ac", Gone: true}, {Key: "b", Val: ""}}} {
		for _, each := range []int{1, 2, 3} {
			s := mustBuild(t, list, each, 3)
			for i := range s {
				for by := 1; by < 256; by++ {
					turned := []byte(s)
					turned[i] += byte(by)
					if !tellsError(string(turned)) {
						t.Fatalf("%d entries, %d in a block: byte %d by %d more: no error", len(list), each, i, by)
					}
				}
			}
			if tellsError(s) {
				t.Fatalf("%d entries, %d in a block: an error where no byte is another one", len(list), each)
			}
		}
	}
}

// tellsError tells whether Open, or a Scan of all, tells an error.
func tellsError(s string) bool {
	x, e := table.Open(len(s), over(s))
	if e != api.OK {
		return true
	}
	for _, e := range x.Scan("") {
		if e != api.OK {
			return true
		}
	}
	return false
}
