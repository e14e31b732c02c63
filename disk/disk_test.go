package disk_test

import (
	"fmt"
	"math"
	"slices"
	"strings"
	"testing"

	"silo/api"
	"silo/disk"
)

// noTiers are numbers that are no tier's.
var noTiers = []api.Tier{-1, 2, 3, math.MinInt, math.MaxInt, -2, 64}

func fresh(t *testing.T, hot, cold int) *disk.Disk {
	t.Helper()
	d, e := disk.New(hot, cold)
	if d == nil || e != api.OK {
		t.Fatalf("New(%d, %d) = %v, %d", hot, cold, d, e)
	}
	return d
}

// ok ends the test where one of the answers is an error.
func ok(t *testing.T, answers ...api.Errno) {
	t.Helper()
	for i, e := range answers {
		if e != api.OK {
			t.Fatalf("answer %d is %d", i, e)
		}
	}
}

// keeps answers a Keep for each file and the number of bytes behind it.
func keeps(numbers ...int) []api.Keep {
	list := []api.Keep{}
	for i := 0; i < len(numbers); i += 2 {
		list = append(list, api.Keep{File: numbers[i], Bytes: numbers[i+1]})
	}
	return list
}

func wantErr(t *testing.T, call string, got, want api.Errno) {
	t.Helper()
	if got != want {
		t.Errorf("%s = %d; want %d", call, got, want)
	}
}

// wantFile holds a file's tier and all of its bytes.
func wantFile(t *testing.T, d *disk.Disk, n int, tier api.Tier, bytes string) {
	t.Helper()
	size, at, e := d.Size(n)
	if size != len(bytes) || at != tier || e != api.OK {
		t.Errorf("Size(%d) = %d, %d, %d; want %d, %d", n, size, at, e, len(bytes), tier)
	}
	if s, e := d.Read(n, 0, len(bytes)); s != bytes || e != api.OK {
		t.Errorf("Read(%d) = %q, %d; want %q", n, s, e, bytes)
	}
}

func wantFiles(t *testing.T, d *disk.Disk, want ...int) {
	t.Helper()
	if got := d.Files(); !slices.Equal(got, want) {
		t.Errorf("Files = %v; want %v", got, want)
	}
}

func wantUsed(t *testing.T, d *disk.Disk, hot, cold int) {
	t.Helper()
	if h, c := d.Used(api.Hot), d.Used(api.Cold); h != hot || c != cold {
		t.Errorf("Used = %d, %d; want %d, %d", h, c, hot, cold)
	}
}

func wantSteps(t *testing.T, d *disk.Disk, want int) {
	t.Helper()
	if got := d.Steps(); got != want {
		t.Errorf("Steps = %d; want %d", got, want)
	}
}

// told is all that a disk tells of itself without a change, in one text.
func told(d *disk.Disk) string {
	var b strings.Builder
	fmt.Fprintf(&b, "down %t root %d steps %d used %d %d room %d %d files %v", d.Down(), d.Root(), d.Steps(),
		d.Used(api.Hot), d.Used(api.Cold), d.Room(api.Hot), d.Room(api.Cold), d.Files())
	for _, n := range d.Files() {
		size, tier, e := d.Size(n)
		s, e2 := d.Read(n, 0, size)
		fmt.Fprintf(&b, " [%d: %d %d %d %q %d]", n, size, tier, e, s, e2)
	}
	return b.String()
}

// P4.1 to P4.5: what the chapter writes out.
func TestExamples(t *testing.T) {
	d := fresh(t, 3, 0)
	ok(t, d.Make(api.Hot, 1), d.Add(1, strings.Repeat("x", 64)))
	wantUsed(t, d, 2, 0)
	wantErr(t, "Add of 65 bytes", d.Add(1, strings.Repeat("x", 65)), api.ErrFull)
	wantErr(t, "Make in the tier without blocks", d.Make(api.Cold, 2), api.ErrFull)

	for _, x := range []struct {
		keeps []api.Keep
		want  string
	}{{[]api.Keep{{File: 1, Bytes: 1}}, "abcd"}, {nil, "abc"}} {
		d = fresh(t, 3, 0)
		ok(t, d.Make(api.Hot, 1), d.Add(1, "abc"), d.Sync(1), d.Add(1, "de"))
		d.Back(x.keeps...)
		wantFile(t, d, 1, api.Hot, x.want)
	}

	d = fresh(t, 3, 0)
	ok(t, d.Make(api.Hot, 1), d.Add(1, "abc"), d.Sync(1))
	d.Arm(0)
	wantErr(t, "Add just when the power goes", d.Add(1, "x"), api.ErrDown)
	d.Back(api.Keep{File: 1, Bytes: 1})
	wantFile(t, d, 1, api.Hot, "abcx")
}

// P4.1
func TestNew(t *testing.T) {
	numbers := []int{math.MinInt, -api.MaxBlocks, -2, -1, 0, 1, 2, api.MaxBlocks - 1, api.MaxBlocks, api.MaxBlocks + 1, 2 * api.MaxBlocks, math.MaxInt}
	for _, hot := range numbers {
		for _, cold := range numbers {
			d, e := disk.New(hot, cold)
			if hot < 0 || cold < 0 || hot > 1<<20 || cold > 1<<20 {
				if d != nil || e != api.ErrArg {
					t.Errorf("New(%d, %d) = %v, %d", hot, cold, d, e)
				}
				continue
			}
			want := fmt.Sprintf("down false root 0 steps 0 used 0 0 room %d %d files []", hot, cold)
			if e != api.OK || told(d) != want {
				t.Errorf("New(%d, %d) = %s, %d; want %s", hot, cold, told(d), e, want)
			}
		}
	}
}

// P4.1: what is done to a disk is not done to another one.
func TestNewIsAlone(t *testing.T) {
	a, b := fresh(t, 4, 4), fresh(t, 4, 4)
	before := told(b)
	ok(t, a.Make(api.Hot, 1), a.Sync(1), a.Point(1))
	a.Arm(0)
	wantErr(t, "Make", a.Make(api.Hot, 2), api.ErrDown)
	if told(b) != before {
		t.Errorf("the other disk became %s", told(b))
	}
	ok(t, b.Make(api.Hot, 1))
}

// P4.2: each refusal of Make, the first one where several hold.
func TestMakeRefuses(t *testing.T) {
	d := fresh(t, 2, 1)
	ok(t, d.Make(api.Hot, 1), d.Make(api.Cold, 7))
	for _, n := range []int{math.MinInt, -1, 0, 1, 2, 7, math.MaxInt} {
		for _, tier := range noTiers {
			wantErr(t, fmt.Sprintf("Make(%d, %d)", tier, n), d.Make(tier, n), api.ErrArg)
		}
	}
	for _, n := range []int{math.MinInt, -7, -1, 0} {
		wantErr(t, fmt.Sprintf("Make(Hot, %d)", n), d.Make(api.Hot, n), api.ErrArg)
		wantErr(t, fmt.Sprintf("Make(Cold, %d), no room", n), d.Make(api.Cold, n), api.ErrArg)
	}
	wantErr(t, "Make of a file that is there", d.Make(api.Hot, 1), api.ErrThere)
	wantErr(t, "Make of a file that is in the other tier", d.Make(api.Hot, 7), api.ErrThere)
	wantErr(t, "Make of a file that is there, no room", d.Make(api.Cold, 7), api.ErrThere)
	wantErr(t, "Make of a file that is in the other tier, no room", d.Make(api.Cold, 1), api.ErrThere)
	wantErr(t, "Make, no room", d.Make(api.Cold, 2), api.ErrFull)
	ok(t, d.Make(api.Hot, 2))
	wantErr(t, "Make, no room any more", d.Make(api.Hot, 3), api.ErrFull)
	wantFiles(t, d, 1, 2, 7)
}

// P4.2: a file that is made has no bytes, its tier, and isn't sure; its number may be made again once it is gone.
func TestMake(t *testing.T) {
	for _, tier := range []api.Tier{api.Hot, api.Cold} {
		for _, n := range []int{1, 2, 64, math.MaxInt} {
			d := fresh(t, 1, 1)
			ok(t, d.Make(tier, n))
			wantFiles(t, d, n)
			wantFile(t, d, n, tier, "")
			wantUsed(t, d, 1-int(tier), int(tier))
			wantErr(t, "Point of a file that isn't sure", d.Point(n), api.ErrState)
			ok(t, d.Drop(n), d.Make(1-tier, n))
			wantFile(t, d, n, 1-tier, "")
		}
	}
	d := fresh(t, 9, 9)
	ok(t, d.Make(api.Hot, 1), d.Add(1, "old"), d.Sync(1), d.Drop(1), d.Make(api.Hot, 1))
	wantFile(t, d, 1, api.Hot, "")
	wantErr(t, "Point of a file that was made again", d.Point(1), api.ErrState)
	d.Back()
	wantFiles(t, d)
}

// P4.2: files that aren't there, whatever the other arguments are.
func TestNoFile(t *testing.T) {
	d := fresh(t, 2, 2)
	ok(t, d.Make(api.Hot, 1), d.Make(api.Hot, 2), d.Drop(2))
	for _, n := range []int{math.MinInt, -1, 0, 2, 3, math.MaxInt} {
		call := fmt.Sprintf(" of the file %d", n)
		wantErr(t, "Add"+call, d.Add(n, ""), api.ErrNone)
		wantErr(t, "Add of more than there is room for"+call, d.Add(n, strings.Repeat("x", 999)), api.ErrNone)
		wantErr(t, "Sync"+call, d.Sync(n), api.ErrNone)
		wantErr(t, "Drop"+call, d.Drop(n), api.ErrNone)
		wantErr(t, "Point"+call, d.Point(n), api.ErrNone)
		for _, at := range []int{math.MinInt, -1, 0, 1, math.MaxInt} {
			s, e := d.Read(n, at, at)
			if s != "" || e != api.ErrNone {
				t.Errorf("Read(%d, %d, %d) = %q, %d", n, at, at, s, e)
			}
		}
		if size, tier, e := d.Size(n); size != 0 || tier != 0 || e != api.ErrNone {
			t.Errorf("Size(%d) = %d, %d, %d", n, size, tier, e)
		}
	}
}

// P4.2: bytes stand at the file's end, and aren't sure.
func TestAdd(t *testing.T) {
	d := fresh(t, 9, 9)
	ok(t, d.Make(api.Cold, 1), d.Make(api.Hot, 2), d.Add(1, "ab"), d.Add(2, "\x00\xff"), d.Add(1, ""), d.Add(1, "c\n"), d.Add(2, "x"))
	wantFile(t, d, 1, api.Cold, "abc\n")
	wantFile(t, d, 2, api.Hot, "\x00\xffx")
	ok(t, d.Sync(1), d.Add(1, "de"))
	wantFile(t, d, 1, api.Cold, "abc\nde")
	wantErr(t, "Point of a file with bytes that aren't sure", d.Point(1), api.ErrState)
	d.Back()
	wantFiles(t, d, 1)
	wantFile(t, d, 1, api.Cold, "abc\n")
	ok(t, d.Add(1, "xyz"))
	wantFile(t, d, 1, api.Cold, "abc\nxyz")
}

// P4.2: a file of so many bytes takes one block, and one for each 64 of them, in its tier alone.
func TestBlocks(t *testing.T) {
	for _, x := range []struct{ size, blocks int }{{0, 1}, {1, 2}, {2, 2}, {63, 2}, {64, 2}, {65, 3}, {127, 3}, {128, 3}, {129, 4}, {4096, 65}, {4097, 66}} {
		text := strings.Repeat("x", x.size)
		for _, tier := range []api.Tier{api.Hot, api.Cold} {
			call := fmt.Sprintf("%d bytes in the tier %d", x.size, tier)
			hot, cold := x.blocks, 0
			if tier == api.Cold {
				hot, cold = 0, x.blocks
			}
			d := fresh(t, hot, cold)
			ok(t, d.Make(tier, 5), d.Add(5, text))
			wantUsed(t, d, hot, cold)
			d = fresh(t, hot, cold)
			ok(t, d.Make(tier, 5))
			for i := range x.size {
				ok(t, d.Add(5, text[i:i+1]))
			}
			wantUsed(t, d, hot, cold)
			wantErr(t, "Make behind "+call, d.Make(tier, 6), api.ErrFull)
			ok(t, d.Drop(5))
			wantUsed(t, d, 0, 0)
			if x.size > 0 {
				d = fresh(t, max(hot-1, 0), max(cold-1, 0))
				ok(t, d.Make(tier, 5))
				wantErr(t, "Add of "+call, d.Add(5, text), api.ErrFull)
				wantFile(t, d, 5, tier, "")
			}
		}
	}
}

// P4.2: the blocks of all files of a tier count, those of the other tier don't.
func TestRoomIsShared(t *testing.T) {
	d := fresh(t, 6, 9)
	ok(t, d.Make(api.Hot, 1), d.Make(api.Hot, 2), d.Make(api.Cold, 3), d.Add(3, strings.Repeat("c", 8*64)), d.Add(1, strings.Repeat("a", 130)))
	wantUsed(t, d, 5, 9)
	wantErr(t, "Add of two blocks", d.Add(2, strings.Repeat("b", 65)), api.ErrFull)
	ok(t, d.Add(1, strings.Repeat("a", 62)))
	wantErr(t, "Add of one byte too much", d.Add(3, "c"), api.ErrFull)
	ok(t, d.Add(3, ""), d.Add(2, strings.Repeat("b", 64)))
	wantUsed(t, d, 6, 9)
	wantErr(t, "Add to the first file", d.Add(1, "a"), api.ErrFull)
	wantErr(t, "Add to the second file", d.Add(2, "b"), api.ErrFull)
	wantErr(t, "Make", d.Make(api.Hot, 4), api.ErrFull)
	ok(t, d.Drop(3), d.Drop(1), d.Add(2, strings.Repeat("b", 4*64)))
	wantUsed(t, d, 6, 0)
	wantFile(t, d, 2, api.Hot, strings.Repeat("b", 5*64))
}

// P4.2: a tier of the most blocks is filled to its last byte.
func TestGreatestTier(t *testing.T) {
	d := fresh(t, 0, api.MaxBlocks)
	ok(t, d.Make(api.Cold, 1), d.Add(1, strings.Repeat("x", 64*(1<<20-1)-1)), d.Add(1, "y"))
	wantUsed(t, d, 0, 1<<20)
	wantErr(t, "Add to a full tier", d.Add(1, "z"), api.ErrFull)
	if s, e := d.Read(1, 64*(1<<20-1)-2, 2); s != "xy" || e != api.OK {
		t.Errorf("Read at the end = %q, %d", s, e)
	}
}

// P4.2
func TestSyncAndPoint(t *testing.T) {
	d := fresh(t, 9, 9)
	ok(t, d.Make(api.Hot, 1), d.Make(api.Cold, 2))
	wantErr(t, "Point of a file that isn't sure, without bytes", d.Point(1), api.ErrState)
	ok(t, d.Add(2, "b"))
	wantErr(t, "Point of a file that isn't sure", d.Point(2), api.ErrState)
	ok(t, d.Sync(1), d.Point(1))
	if d.Root() != 1 {
		t.Errorf("Root = %d", d.Root())
	}
	wantErr(t, "Point of another file that isn't sure", d.Point(2), api.ErrState)
	ok(t, d.Add(1, ""), d.Point(1), d.Add(1, "a"))
	wantErr(t, "Point of the root with a byte that isn't sure", d.Point(1), api.ErrState)
	ok(t, d.Sync(1), d.Sync(1), d.Point(1), d.Sync(2), d.Point(2), d.Point(2))
	if d.Root() != 2 {
		t.Errorf("Root = %d", d.Root())
	}
	d.Back()
	wantFile(t, d, 1, api.Hot, "a")
	wantFile(t, d, 2, api.Cold, "b")
	if d.Root() != 2 {
		t.Errorf("Root behind Back = %d", d.Root())
	}
}

// P4.2: a Sync is of its file alone.
func TestSyncOfOneFile(t *testing.T) {
	d := fresh(t, 9, 9)
	ok(t, d.Make(api.Hot, 1), d.Make(api.Hot, 2), d.Make(api.Hot, 3), d.Sync(3), d.Add(1, "a"), d.Add(2, "b"), d.Add(3, "c"), d.Sync(2))
	d.Back()
	wantFiles(t, d, 2, 3)
	wantFile(t, d, 2, api.Hot, "b")
	wantFile(t, d, 3, api.Hot, "")
}

// P4.2: the root stays, until another file is it; a file that is gone, is gone surely.
func TestDrop(t *testing.T) {
	d := fresh(t, 9, 9)
	ok(t, d.Make(api.Hot, 1), d.Make(api.Hot, 2), d.Make(api.Cold, 3), d.Add(2, "b"), d.Sync(1), d.Sync(2), d.Point(1))
	wantErr(t, "Drop of the root", d.Drop(1), api.ErrState)
	ok(t, d.Add(1, "a"))
	wantErr(t, "Drop of the root with bytes that aren't sure", d.Drop(1), api.ErrState)
	ok(t, d.Drop(3), d.Point(2), d.Drop(1))
	wantErr(t, "Drop of the new root", d.Drop(2), api.ErrState)
	wantErr(t, "Drop of what was dropped", d.Drop(1), api.ErrNone)
	wantFiles(t, d, 2)
	wantUsed(t, d, 2, 0)
	d.Back(api.Keep{File: 1, Bytes: 9}, api.Keep{File: 3, Bytes: 9})
	wantFiles(t, d, 2)
	wantUsed(t, d, 2, 0)
}

// P4.2: places and sizes at the edges of a file, and far beyond them.
func TestReadAtTheEdges(t *testing.T) {
	const text = "abcdefgh"
	d := fresh(t, 9, 9)
	ok(t, d.Make(api.Hot, 1), d.Add(1, text[:3]), d.Sync(1), d.Add(1, text[3:]), d.Make(api.Cold, 2))
	edges := []int{math.MinInt, math.MinInt + 1, math.MinInt + 8, -9, -8, -1, 0, 1, 2, 3, 4, 7, 8, 9, 16, math.MaxInt - 8, math.MaxInt - 7, math.MaxInt - 1, math.MaxInt}
	for n, has := range map[int]string{1: text, 2: ""} {
		for _, at := range edges {
			for _, size := range edges {
				want, wantE := "", api.ErrArg
				if at >= 0 && at <= len(has) && size >= 0 && size <= len(has[at:]) {
					want, wantE = has[at:][:size], api.OK
				}
				if s, e := d.Read(n, at, size); s != want || e != wantE {
					t.Errorf("Read(%d, %d, %d) = %q, %d; want %q, %d", n, at, size, s, e, want, wantE)
				}
			}
		}
	}
}

// P4.2: what was read stays as it was, whatever becomes of the file.
func TestReadIsNew(t *testing.T) {
	d := fresh(t, 9, 9)
	ok(t, d.Make(api.Hot, 1), d.Add(1, "ab"), d.Sync(1), d.Add(1, "cdefgh"))
	s, _ := d.Read(1, 0, 8)
	d.Back()
	ok(t, d.Add(1, "stuvwx"))
	again, _ := d.Read(1, 0, 8)
	ok(t, d.Drop(1), d.Make(api.Hot, 1), d.Add(1, "12345678"))
	if s != "abcdefgh" || again != "abstuvwx" {
		t.Errorf("what was read became %q, %q", s, again)
	}
}

// P4.3
func TestFilesRise(t *testing.T) {
	d := fresh(t, 9, 9)
	for i, n := range []int{64, 3, math.MaxInt, 1, 10, 2, 65} {
		ok(t, d.Make(api.Tier(i%2), n))
	}
	wantFiles(t, d, 1, 2, 3, 10, 64, 65, math.MaxInt)
	got := d.Files()
	for i := range got {
		got[i] = -1
	}
	spare := got[:cap(got)]
	for i := range spare {
		spare[i] = -2
	}
	wantFiles(t, d, 1, 2, 3, 10, 64, 65, math.MaxInt)
	a, b := d.Files(), d.Files()
	a = append(a, 1)
	b = append(b, 2)
	if a[0] = 5; b[0] != 1 || a[7] != 1 {
		t.Errorf("two lists of files share memory: %v, %v", a, b)
	}
}

// P4.3: of what is no tier there are no blocks.
func TestNoTier(t *testing.T) {
	d := fresh(t, 5, 6)
	ok(t, d.Make(api.Hot, 1), d.Make(api.Cold, 2), d.Make(api.Cold, 3))
	wantUsed(t, d, 1, 2)
	if d.Room(api.Hot) != 5 || d.Room(api.Cold) != 6 {
		t.Errorf("Room = %d, %d", d.Room(api.Hot), d.Room(api.Cold))
	}
	for _, tier := range noTiers {
		if d.Used(tier) != 0 || d.Room(tier) != 0 {
			t.Errorf("the tier %d: Used %d, Room %d", tier, d.Used(tier), d.Room(tier))
		}
	}
}

// P4.3: each change counts once; what is refused, and what is no change, doesn't.
func TestSteps(t *testing.T) {
	d := fresh(t, 9, 9)
	wantSteps(t, d, 0)
	changes := []func() api.Errno{
		func() api.Errno { return d.Make(api.Hot, 1) }, func() api.Errno { return d.Add(1, "abc") }, func() api.Errno { return d.Add(1, "") },
		func() api.Errno { return d.Sync(1) }, func() api.Errno { return d.Sync(1) }, func() api.Errno { return d.Point(1) }, func() api.Errno { return d.Point(1) },
		func() api.Errno { return d.Make(api.Cold, 2) }, func() api.Errno { return d.Drop(2) },
	}
	for i, change := range changes {
		ok(t, change())
		wantSteps(t, d, i+1)
		d.Read(1, 0, 1)
		d.Size(1)
		d.Files()
		d.Arm(100)
		d.Make(api.Hot, 1)
		d.Drop(7)
		wantSteps(t, d, i+1)
	}
	d.Back()
	d.Back(api.Keep{File: 1, Bytes: 1})
	wantSteps(t, d, len(changes))
	ok(t, d.Add(1, "d"))
	wantSteps(t, d, len(changes)+1)
}

// goDown lets a disk's power go by a change that leaves no trace.
func goDown(t *testing.T, d *disk.Disk) {
	t.Helper()
	d.Arm(0)
	wantErr(t, "the change at which the power goes", d.Make(api.Hot, 1<<40), api.ErrDown)
	if !d.Down() {
		t.Fatal("the power isn't gone")
	}
}

// P4.2: of a disk that is down each call is answered so, ahead of all other refusals.
func TestDownComesFirst(t *testing.T) {
	d := fresh(t, 3, 1)
	ok(t, d.Make(api.Hot, 1), d.Sync(1), d.Point(1), d.Add(1, "a"), d.Make(api.Cold, 2))
	goDown(t, d)
	for _, n := range []int{math.MinInt, -1, 0, 1, 2, 3, math.MaxInt} {
		call := fmt.Sprintf(" of the file %d", n)
		for _, tier := range append(noTiers, api.Hot, api.Cold) {
			wantErr(t, "Make"+call, d.Make(tier, n), api.ErrDown)
		}
		wantErr(t, "Add"+call, d.Add(n, "x"), api.ErrDown)
		wantErr(t, "Add of too much"+call, d.Add(n, strings.Repeat("x", 999)), api.ErrDown)
		wantErr(t, "Sync"+call, d.Sync(n), api.ErrDown)
		wantErr(t, "Drop"+call, d.Drop(n), api.ErrDown)
		wantErr(t, "Point"+call, d.Point(n), api.ErrDown)
		for _, at := range []int{math.MinInt, -1, 0, 1, math.MaxInt} {
			if s, e := d.Read(n, at, 0); s != "" || e != api.ErrDown {
				t.Errorf("Read(%d, %d, 0) = %q, %d", n, at, s, e)
			}
		}
		if size, tier, e := d.Size(n); size != 0 || tier != 0 || e != api.ErrDown {
			t.Errorf("Size(%d) = %d, %d, %d", n, size, tier, e)
		}
	}
	if s, e := d.Read(1, 0, 1); s != "" || e != api.ErrDown {
		t.Errorf("Read of what stands there = %q, %d", s, e)
	}
}

// P4.3: what is told also when the disk is down.
func TestToldWhenDown(t *testing.T) {
	d := fresh(t, 5, 6)
	ok(t, d.Make(api.Hot, 9), d.Add(9, "abc"), d.Sync(9), d.Point(9), d.Make(api.Cold, 2), d.Add(2, strings.Repeat("x", 100)))
	before := []int{d.Root(), d.Used(api.Hot), d.Used(api.Cold), d.Room(api.Hot), d.Room(api.Cold), d.Used(2), d.Room(2), d.Used(-1), d.Room(-1), d.Steps()}
	goDown(t, d)
	after := []int{d.Root(), d.Used(api.Hot), d.Used(api.Cold), d.Room(api.Hot), d.Room(api.Cold), d.Used(2), d.Room(2), d.Used(-1), d.Room(-1), d.Steps()}
	if want := []int{9, 2, 3, 5, 6, 0, 0, 0, 0, 6}; !slices.Equal(before, want) || !slices.Equal(after, want) {
		t.Errorf("told %v, and %v when down; want %v", before, after, want)
	}
	wantFiles(t, d, 2, 9)
}

// refusals are calls that a disk of mixedDisk refuses, with their answers.
var refusals = []struct {
	call string
	do   func(*disk.Disk) api.Errno
	want api.Errno
}{
	{"Make in no tier", func(d *disk.Disk) api.Errno { return d.Make(2, 5) }, api.ErrArg},
	{"Make in no tier, below 0", func(d *disk.Disk) api.Errno { return d.Make(-1, 5) }, api.ErrArg},
	{"Make of 0", func(d *disk.Disk) api.Errno { return d.Make(api.Hot, 0) }, api.ErrArg},
	{"Make below 0", func(d *disk.Disk) api.Errno { return d.Make(api.Hot, -1) }, api.ErrArg},
	{"Make of what is there", func(d *disk.Disk) api.Errno { return d.Make(api.Hot, 3) }, api.ErrThere},
	{"Make without room", func(d *disk.Disk) api.Errno { return d.Make(api.Cold, 5) }, api.ErrFull},
	{"Add to no file", func(d *disk.Disk) api.Errno { return d.Add(5, "x") }, api.ErrNone},
	{"Add of too much", func(d *disk.Disk) api.Errno { return d.Add(1, strings.Repeat("x", 640)) }, api.ErrFull},
	{"Add to a full tier", func(d *disk.Disk) api.Errno { return d.Add(3, strings.Repeat("x", 64)) }, api.ErrFull},
	{"Sync of no file", func(d *disk.Disk) api.Errno { return d.Sync(5) }, api.ErrNone},
	{"Drop of no file", func(d *disk.Disk) api.Errno { return d.Drop(5) }, api.ErrNone},
	{"Drop of the root", func(d *disk.Disk) api.Errno { return d.Drop(1) }, api.ErrState},
	{"Point at no file", func(d *disk.Disk) api.Errno { return d.Point(5) }, api.ErrNone},
	{"Point at unsure bytes", func(d *disk.Disk) api.Errno { return d.Point(2) }, api.ErrState},
	{"Point at an unsure file", func(d *disk.Disk) api.Errno { return d.Point(3) }, api.ErrState},
	{"Point at an unsure file without bytes", func(d *disk.Disk) api.Errno { return d.Point(4) }, api.ErrState},
	{"Read of no file", func(d *disk.Disk) api.Errno { _, e := d.Read(5, 0, 0); return e }, api.ErrNone},
	{"Read below 0", func(d *disk.Disk) api.Errno { _, e := d.Read(1, -1, 1); return e }, api.ErrArg},
	{"Read of a size below 0", func(d *disk.Disk) api.Errno { _, e := d.Read(1, 1, -1); return e }, api.ErrArg},
	{"Read of too much", func(d *disk.Disk) api.Errno { _, e := d.Read(1, 0, 99); return e }, api.ErrArg},
	{"Size of no file", func(d *disk.Disk) api.Errno { _, _, e := d.Size(5); return e }, api.ErrNone},
}

// mixedDisk answers a disk with files of every kind: the root, one with bytes that aren't sure, and two that aren't sure themselves.
func mixedDisk(t *testing.T) *disk.Disk {
	t.Helper()
	d := fresh(t, 9, 2)
	ok(t, d.Make(api.Hot, 1), d.Add(1, "root"), d.Sync(1), d.Point(1), d.Make(api.Hot, 2), d.Add(2, "ab"), d.Sync(2), d.Add(2, "cd"),
		d.Make(api.Cold, 3), d.Add(3, "xyz"), d.Make(api.Hot, 4))
	return d
}

// P4.2, and P4.4 of what is no change: a refused call changes nothing that a later one could tell, neither what is there nor what is sure, nor when the power goes.
func TestRefusedChangesNothing(t *testing.T) {
	for _, x := range refusals {
		for _, left := range []int{-1, 0, 1, 2} {
			d, twin := mixedDisk(t), mixedDisk(t)
			d.Arm(left)
			twin.Arm(left)
			for range 3 {
				wantErr(t, x.call, x.do(d), x.want)
			}
			wantAlike(t, x.call, d, twin)
			for i := range 3 {
				wantErr(t, x.call+", then Add", d.Add(1, "x"), twin.Add(1, "x"))
				wantAlike(t, x.call+", then Add", d, twin)
				if d.Down() != (left >= 0 && i >= left) {
					t.Errorf("%s, Arm(%d), Add %d: Down = %t", x.call, left, i, d.Down())
				}
			}
			d.Back(api.Keep{File: 3, Bytes: 1})
			twin.Back(api.Keep{File: 3, Bytes: 1})
			wantAlike(t, x.call+", then Back", d, twin)
		}
	}
}

func wantAlike(t *testing.T, call string, d, twin *disk.Disk) {
	t.Helper()
	if got, want := told(d), told(twin); got != want {
		t.Errorf("%s: %s; want %s", call, got, want)
	}
}

// P4.2: calls that a disk refuses because it is down change nothing either.
func TestRefusedWhenDown(t *testing.T) {
	d, twin := mixedDisk(t), mixedDisk(t)
	goDown(t, d)
	goDown(t, twin)
	d.Make(api.Hot, 5)
	d.Add(1, "x")
	d.Sync(2)
	d.Drop(2)
	d.Point(2)
	wantAlike(t, "changes when down", d, twin)
	d.Back(api.Keep{File: 3, Bytes: 2})
	twin.Back(api.Keep{File: 3, Bytes: 2})
	wantAlike(t, "changes when down, then Back", d, twin)
}

// P4.4: so many changes more are done, then the power goes.
func TestArm(t *testing.T) {
	for left := range 6 {
		d := mixedDisk(t)
		steps := d.Steps()
		d.Arm(left)
		for i := range left {
			ok(t, d.Add(2, "+"))
			wantSteps(t, d, steps+i+1)
			d.Read(2, 0, 1)
			d.Size(2)
		}
		if d.Down() {
			t.Errorf("Arm(%d): down ahead of its time", left)
		}
		wantErr(t, fmt.Sprintf("Arm(%d), one change more", left), d.Sync(2), api.ErrDown)
		if !d.Down() {
			t.Errorf("Arm(%d): not down", left)
		}
		wantSteps(t, d, steps+left)
	}
}

// P4.4: numbers at which the power stays.
func TestArmNever(t *testing.T) {
	for _, n := range []int{-1, -2, math.MinInt, math.MaxInt, 1000} {
		d := mixedDisk(t)
		d.Arm(n)
		for range 100 {
			ok(t, d.Add(2, ""))
		}
		d = mixedDisk(t)
		d.Arm(0)
		d.Arm(n)
		ok(t, d.Sync(2), d.Add(2, "x"))
		if d.Down() {
			t.Errorf("Arm(%d): down", n)
		}
	}
}

// P4.4: of two Arms the later one holds.
func TestArmAgain(t *testing.T) {
	for _, first := range []int{-1, 0, 1, 2, 5} {
		for _, between := range []int{0, 1} {
			for _, second := range []int{0, 1, 3} {
				if first >= 0 && between > first {
					continue
				}
				d := mixedDisk(t)
				d.Arm(first)
				for range between {
					ok(t, d.Add(2, "x"))
				}
				d.Arm(second)
				for range second {
					ok(t, d.Add(2, "x"))
				}
				wantErr(t, fmt.Sprintf("Arm(%d), %d changes, Arm(%d), the last change", first, between, second), d.Add(2, "x"), api.ErrDown)
			}
		}
	}
}

// P4.4: a disk that is down isn't brought back by Arm, and what Arm said then doesn't hold behind Back.
func TestArmWhenDown(t *testing.T) {
	for _, n := range []int{-1, 0, 1, 7} {
		d := mixedDisk(t)
		goDown(t, d)
		d.Arm(n)
		if !d.Down() {
			t.Errorf("Arm(%d) brought the power back", n)
		}
		wantErr(t, "Add", d.Add(1, "x"), api.ErrDown)
		d.Back()
		for range 10 {
			ok(t, d.Add(1, "x"))
		}
	}
}

// P4.4: the change at which the power goes isn't done, whichever it is; but of an Add the bytes stand there, not sure.
func TestPowerGoesAtEachChange(t *testing.T) {
	for _, x := range []struct {
		call string
		do   func(*disk.Disk) api.Errno
		kept string // what the file 2 has behind a Back that keeps all
	}{
		{"Make", func(d *disk.Disk) api.Errno { return d.Make(api.Hot, 5) }, "abcd"},
		{"Add", func(d *disk.Disk) api.Errno { return d.Add(2, "ef") }, "abcdef"},
		{"Add of nothing", func(d *disk.Disk) api.Errno { return d.Add(2, "") }, "abcd"},
		{"Sync", func(d *disk.Disk) api.Errno { return d.Sync(2) }, "abcd"},
		{"Sync of an unsure file", func(d *disk.Disk) api.Errno { return d.Sync(3) }, "abcd"},
		{"Drop", func(d *disk.Disk) api.Errno { return d.Drop(2) }, "abcd"},
		{"Drop of an unsure file", func(d *disk.Disk) api.Errno { return d.Drop(3) }, "abcd"},
		{"Point", func(d *disk.Disk) api.Errno { return d.Point(1) }, "abcd"},
	} {
		for _, kept := range []bool{false, true} {
			d := mixedDisk(t)
			steps := d.Steps()
			d.Arm(0)
			wantErr(t, x.call, x.do(d), api.ErrDown)
			if !d.Down() {
				t.Errorf("%s: not down", x.call)
			}
			wantSteps(t, d, steps)
			wantFiles(t, d, 1, 2, 3, 4)
			wantUsed(t, d, 5, 2)
			wantErr(t, x.call+" again", x.do(d), api.ErrDown)
			if kept {
				d.Back(api.Keep{File: 5, Bytes: 9}, api.Keep{File: 4, Bytes: 9}, api.Keep{File: 3, Bytes: 9}, api.Keep{File: 2, Bytes: 9})
				wantFiles(t, d, 1, 2, 3, 4)
				wantFile(t, d, 2, api.Hot, x.kept)
				wantFile(t, d, 3, api.Cold, "xyz")
				wantFile(t, d, 4, api.Hot, "")
			} else {
				d.Back()
				wantFiles(t, d, 1, 2)
				wantFile(t, d, 2, api.Hot, "ab")
			}
			wantFile(t, d, 1, api.Hot, "root")
			if d.Root() != 1 || d.Down() {
				t.Errorf("%s, then Back: Root %d, Down %t", x.call, d.Root(), d.Down())
			}
			wantSteps(t, d, steps)
			ok(t, d.Add(1, "x"))
		}
	}
}

// P4.4: an Add at which the power goes takes blocks, and is one once, to a file that isn't sure too.
func TestAddAsThePowerGoes(t *testing.T) {
	for _, x := range []struct{ keep, size, used int }{{-1, 0, 1}, {0, 0, 1}, {1, 1, 2}, {64, 64, 2}, {65, 65, 3}, {130, 130, 4}, {131, 130, 4}, {999, 130, 4}} {
		for _, sure := range []bool{false, true} {
			d := fresh(t, 4, 0)
			ok(t, d.Make(api.Hot, 1))
			if sure {
				ok(t, d.Sync(1))
			}
			d.Arm(0)
			wantErr(t, "Add of too much", d.Add(1, strings.Repeat("x", 193)), api.ErrFull)
			if d.Down() {
				t.Fatal("the power went at an Add that was refused")
			}
			text := strings.Repeat("x", 129) + "y"
			wantErr(t, "Add", d.Add(1, text), api.ErrDown)
			wantUsed(t, d, 4, 0)
			wantErr(t, "Add again", d.Add(1, text), api.ErrDown)
			wantUsed(t, d, 4, 0)
			d.Back(api.Keep{File: 1, Bytes: x.keep})
			wantFile(t, d, 1, api.Hot, text[:x.size])
			wantUsed(t, d, x.used, 0)
		}
	}
}

// P4.4: the root stays the one that it was, and what was to be dropped is there wholly.
func TestPointAndDropAsThePowerGoes(t *testing.T) {
	build := func() *disk.Disk {
		d := fresh(t, 9, 9)
		ok(t, d.Make(api.Hot, 1), d.Sync(1), d.Make(api.Cold, 2), d.Add(2, "two"), d.Sync(2))
		return d
	}
	d := build()
	d.Arm(0)
	wantErr(t, "the first Point", d.Point(2), api.ErrDown)
	if d.Back(); d.Root() != 0 {
		t.Errorf("Root = %d", d.Root())
	}
	d = build()
	ok(t, d.Point(1))
	d.Arm(0)
	wantErr(t, "Point at another file", d.Point(2), api.ErrDown)
	if d.Back(); d.Root() != 1 {
		t.Errorf("Root = %d", d.Root())
	}
	d.Arm(0)
	wantErr(t, "Drop", d.Drop(2), api.ErrDown)
	wantUsed(t, d, 1, 2)
	d.Back()
	wantFile(t, d, 2, api.Cold, "two")
	ok(t, d.Drop(2))
}

// P4.5: what a Keep leaves of a file with two bytes that aren't sure, the power gone already and not.
func TestBackKeeps(t *testing.T) {
	for _, x := range []struct {
		keeps []api.Keep
		want  string
	}{
		{nil, "ab"}, {keeps(), "ab"},
		{keeps(2, math.MinInt), "ab"}, {keeps(2, -1), "ab"}, {keeps(2, 0), "ab"}, {keeps(2, 1), "abc"},
		{keeps(2, 2), "abcd"}, {keeps(2, 3), "abcd"}, {keeps(2, math.MaxInt), "abcd"},
		{keeps(2, 1, 2, 2), "abc"}, {keeps(2, 2, 2, 1), "abcd"}, {keeps(2, 0, 2, 2), "ab"}, {keeps(2, -1, 2, 2), "ab"},
		{keeps(1, 1, 9, 1, 2, 1, 9, 2, 1, 2, 2, 2, 2, 0), "abc"},
		{keeps(1, 2), "ab"}, {keeps(5, 2), "ab"}, {keeps(0, 2, -2, 2, math.MinInt, 2, math.MaxInt, 2), "ab"},
	} {
		for _, down := range []bool{false, true} {
			d := mixedDisk(t)
			steps := d.Steps()
			if down {
				goDown(t, d)
			}
			d.Back(x.keeps...)
			if d.Down() || d.Root() != 1 {
				t.Errorf("Back(%v): Down %t, Root %d", x.keeps, d.Down(), d.Root())
			}
			wantSteps(t, d, steps)
			wantFiles(t, d, 1, 2)
			wantFile(t, d, 1, api.Hot, "root")
			wantFile(t, d, 2, api.Hot, x.want)
			wantUsed(t, d, 4, 0)
			ok(t, d.Point(2))
			d.Back()
			wantFile(t, d, 2, api.Hot, x.want)
		}
	}
}

// P4.5: a file that isn't sure itself is there, if a Keep names it, and is sure then.
func TestBackOfUnsureFiles(t *testing.T) {
	for _, x := range []struct {
		keeps []api.Keep
		there bool
		want  string
	}{
		{nil, false, ""}, {keeps(2, 9, 1, 9, 30, 9, -3, 9), false, ""},
		{keeps(3, math.MinInt), true, ""}, {keeps(3, -1), true, ""}, {keeps(3, 0), true, ""}, {keeps(3, 1), true, "x"},
		{keeps(3, 3), true, "xyz"}, {keeps(3, 4), true, "xyz"}, {keeps(3, math.MaxInt), true, "xyz"},
		{keeps(3, 2, 3, 3), true, "xy"}, {keeps(7, 1, 3, -5, 3, 3), true, ""},
	} {
		for _, down := range []bool{false, true} {
			d := mixedDisk(t)
			if down {
				goDown(t, d)
			}
			d.Back(x.keeps...)
			if !x.there {
				wantFiles(t, d, 1, 2)
				wantErr(t, "Add to the file that is gone", d.Add(3, "x"), api.ErrNone)
				ok(t, d.Make(api.Cold, 3))
				wantFile(t, d, 3, api.Cold, "")
				continue
			}
			wantFiles(t, d, 1, 2, 3)
			wantFile(t, d, 3, api.Cold, x.want)
			wantUsed(t, d, 4, 1+min(len(x.want), 1))
			d.Back()
			wantFile(t, d, 3, api.Cold, x.want)
			ok(t, d.Point(3))
		}
	}
	d := mixedDisk(t)
	d.Back(api.Keep{File: 4})
	wantFiles(t, d, 1, 2, 4)
	wantFile(t, d, 4, api.Hot, "")
	ok(t, d.Point(4))
}

// P4.5: what is kept is sure, bytes that come behind it aren't.
func TestBackMakesSure(t *testing.T) {
	d := fresh(t, 9, 9)
	ok(t, d.Make(api.Hot, 1), d.Add(1, "abcdef"))
	d.Back(api.Keep{File: 1, Bytes: 3})
	ok(t, d.Point(1), d.Add(1, "xyz"))
	wantErr(t, "Point", d.Point(1), api.ErrState)
	wantFile(t, d, 1, api.Hot, "abcxyz")
	d.Back(api.Keep{File: 1, Bytes: 1})
	wantFile(t, d, 1, api.Hot, "abcx")
	d.Back()
	wantFile(t, d, 1, api.Hot, "abcx")
}

// P4.5: blocks that a Back frees can be taken again.
func TestBackFrees(t *testing.T) {
	d := fresh(t, 6, 3)
	ok(t, d.Make(api.Hot, 1), d.Sync(1), d.Add(1, strings.Repeat("a", 129)), d.Make(api.Hot, 2), d.Add(2, "b"), d.Make(api.Cold, 3), d.Add(3, strings.Repeat("c", 128)))
	wantUsed(t, d, 6, 3)
	d.Back(api.Keep{File: 1, Bytes: 64})
	wantUsed(t, d, 2, 0)
	ok(t, d.Make(api.Hot, 2), d.Add(2, strings.Repeat("b", 3*64)), d.Make(api.Cold, 3), d.Add(3, strings.Repeat("d", 128)))
	wantUsed(t, d, 6, 3)
	wantErr(t, "Add", d.Add(1, "a"), api.ErrFull)
	ok(t, d.Drop(1), d.Add(2, strings.Repeat("b", 2*64)))
	wantUsed(t, d, 6, 3)
}

// P4.5: nothing that Arm said holds behind Back.
func TestBackDisarms(t *testing.T) {
	for _, n := range []int{0, 1, 2} {
		d := mixedDisk(t)
		d.Arm(n)
		d.Back()
		for range 5 {
			ok(t, d.Add(2, "x"))
		}
		d.Arm(n)
		for range n {
			ok(t, d.Add(2, "x"))
		}
		wantErr(t, "Add", d.Add(2, "x"), api.ErrDown)
	}
}

// P4.5: Keeps that are handed in stay as they are, spare room included, and are not kept.
func TestBackKeepsNothing(t *testing.T) {
	d := mixedDisk(t)
	list := keeps(2, -1, 2, 1, 9, 9, 3, 99, 4, 4, 5, 5)
	was := slices.Clone(list)
	d.Back(list[:4]...)
	if !slices.Equal(list, was) {
		t.Errorf("the Keeps became %v", list)
	}
	wantFiles(t, d, 1, 2, 3)
	ok(t, d.Add(2, "uv"), d.Make(api.Hot, 9))
	list[0].Bytes = 2
	d.Back()
	wantFiles(t, d, 1, 2, 3)
	wantFile(t, d, 2, api.Hot, "ab")
}

// P4.6
func TestNilDisk(t *testing.T) {
	var d *disk.Disk
	for range 2 {
		for _, n := range []int{-1, 0, 1} {
			for _, tier := range []api.Tier{-1, api.Hot, api.Cold, 2} {
				wantErr(t, "Make", d.Make(tier, n), api.ErrDown)
				if d.Used(tier) != 0 || d.Room(tier) != 0 {
					t.Errorf("Used %d, Room %d", d.Used(tier), d.Room(tier))
				}
			}
			wantErr(t, "Add", d.Add(n, "x"), api.ErrDown)
			wantErr(t, "Add of nothing", d.Add(n, ""), api.ErrDown)
			wantErr(t, "Sync", d.Sync(n), api.ErrDown)
			wantErr(t, "Drop", d.Drop(n), api.ErrDown)
			wantErr(t, "Point", d.Point(n), api.ErrDown)
			if s, e := d.Read(n, n, 0); s != "" || e != api.ErrDown {
				t.Errorf("Read = %q, %d", s, e)
			}
			if size, tier, e := d.Size(n); size != 0 || tier != 0 || e != api.ErrDown {
				t.Errorf("Size = %d, %d, %d", size, tier, e)
			}
		}
		if d.Root() != 0 || len(d.Files()) != 0 || d.Steps() != 0 || !d.Down() {
			t.Errorf("Root %d, Files %v, Steps %d, Down %t", d.Root(), d.Files(), d.Steps(), d.Down())
		}
		d.Arm(-1)
		d.Arm(0)
		d.Arm(1)
		d.Back()
		d.Back(api.Keep{File: 1, Bytes: 1})
	}
}
