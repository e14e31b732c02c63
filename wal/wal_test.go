package wal_test

import (
	"fmt"
	"math"
	"slices"
	"strings"
	"testing"

	"silo/api"
	"silo/crc"
	"silo/disk"
	"silo/wal"
)

// long answers a text of so many bytes.
func long(n int) string { return strings.Repeat("m", n) }

// begun answers a log in the file 1 of a new disk's tier Hot.
func begun(t *testing.T, hot int) (*disk.Disk, *wal.Log) {
	t.Helper()
	d, e := disk.New(hot, 0)
	if e != api.OK {
		t.Fatalf("New(%d, 0) = %d", hot, e)
	}
	l, e := wal.Begin(d, api.Hot, 1)
	if e != api.OK {
		t.Fatalf("Begin = %d", e)
	}
	return d, l
}

// wantOK wants a call to have gone well.
func wantOK(t *testing.T, name string, e api.Errno) {
	t.Helper()
	if e != api.OK {
		t.Fatalf("%s = %d", name, e)
	}
}

func wantCounts(t *testing.T, name string, l *wal.Log, waiting, written, sure int) {
	t.Helper()
	if a, b, c := l.Counts(); a != waiting || b != written || c != sure {
		t.Errorf("%s: Counts = %d, %d, %d; want %d, %d, %d", name, a, b, c, waiting, written, sure)
	}
}

func wantReplay(t *testing.T, name string, d *disk.Disk, file int, whole bool, records ...string) {
	t.Helper()
	got, all, e := wal.Replay(d, file)
	if !slices.Equal(got, records) || all != whole || e != api.OK {
		t.Errorf("%s: Replay(%d) = %q, %t, %d; want %q, %t", name, file, got, all, e, records, whole)
	}
}

// wantNoReplay wants an error, and nothing beside it.
func wantNoReplay(t *testing.T, name string, d *disk.Disk, file int, want api.Errno) {
	t.Helper()
	if got, all, e := wal.Replay(d, file); len(got) != 0 || all || e != want {
		t.Errorf("%s: Replay(%d) = %q, %t, %d; want nothing, %d", name, file, got, all, e, want)
	}
}

// wantBytes wants a file to have just these bytes.
func wantBytes(t *testing.T, name string, d *disk.Disk, file int, want string) {
	t.Helper()
	size, _, _ := d.Size(file)
	if s, e := d.Read(file, 0, size); s != want || e != api.OK {
		t.Errorf("%s: the file has %x, %d; want %x", name, s, e, want)
	}
}

// framesOf answers the frames of the records, one behind the other.
func framesOf(records ...string) string {
	var s strings.Builder
	for _, record := range records {
		s.WriteString(wal.Frame(record))
	}
	return s.String()
}

// The chapter's example, byte by byte.
func TestExample(t *testing.T) {
	text := string([]byte{0x42, 0x61, 0x62})
	sum := crc.Sum(text)
	frame := text + string([]byte{byte(sum >> 24), byte(sum >> 16), byte(sum >> 8), byte(sum)})
	if s := wal.Frame("ab"); s != frame {
		t.Errorf("Frame(ab) = %x; want %x", s, frame)
	}
	if got, n := wal.Split(frame + string([]byte{0x42, 0x61})); !slices.Equal(got, []string{"ab"}) || n != 7 {
		t.Errorf("Split = %q, %d; want ab, 7", got, n)
	}
}

// P12.1: the length's bytes, the record, the sum of both.
func TestFrame(t *testing.T) {
	for _, x := range []struct{ head, record string }{
		{"\x40", ""},
		{"\x41", "a"},
		{"\x41", "\x00"},
		{"\x41", "\xff"},
		{"\x44", "\x40\x00\xff\x80"},
		{"\x7f", long(63)},
		{"\x01\x40", long(64)},
		{"\x01\x41", long(65)},
		{"\x3f\x7f", long(4095)},
		{"\x01\x00\x40", long(4096)},
		{"\x3f\x3f\x7f", long(1<<18 - 1)},
		{"\x01\x00\x00\x40", long(1 << 18)},
		{"\x03\x3f\x3f\x7f", long(1<<20 - 1)},
		{"\x04\x00\x00\x40", long(1 << 20)},
		{"\x04\x00\x00\x41", long(1<<20 + 1)},
	} {
		if s := wal.Frame(x.record); s != crc.Put(x.head+x.record) {
			t.Errorf("Frame of %d bytes begins with %x; want %x, the record, their sum", len(x.record), s[:5], x.head)
		}
	}
}

// P12.1: nothing has no records.
func TestSplitOfNothing(t *testing.T) {
	if got, n := wal.Split(""); len(got) != 0 || n != 0 {
		t.Errorf("Split of nothing = %q, %d", got, n)
	}
}

// P12.1: frames in a row, whatever their records are: empty ones, equal ones, ones that are frames themselves.
func TestSplitOfFrames(t *testing.T) {
	for _, records := range [][]string{
		{""},
		{"", ""},
		{"a"},
		{"a", "", "bc"},
		{"", "a", ""},
		{"same", "same", "same"},
		{long(63), long(64), long(65), "x"},
		{wal.Frame("inner"), wal.Frame(wal.Frame(""))},
		{"\x40", "\x40\x00\x00\x00\x00", "\x00", "\xff\xff"},
		{long(1 << 20), "behind the longest"},
		{"ahead", long(1 << 20), long(1 << 20)},
	} {
		s := framesOf(records...)
		if got, n := wal.Split(s); !slices.Equal(got, records) || n != len(s) {
			t.Errorf("Split of %d frames = %d records, %d; want all, %d", len(records), len(got), n, len(s))
		}
	}
}

// P12.1: as many frames as there are, each with its own record.
func TestSplitOfManyFrames(t *testing.T) {
	var records []string
	for i := range 20000 {
		records = append(records, fmt.Sprint("record ", i))
	}
	s := framesOf(records...)
	if got, n := wal.Split(s); !slices.Equal(got, records) || n != len(s) {
		t.Errorf("Split of %d frames = %d records, %d; want all, %d", len(records), len(got), n, len(s))
	}
}

// P12.1: cut off at each place, there are the records of the frames that are there wholly, and the count is where the next one begins.
func TestSplitOfLess(t *testing.T) {
	records := []string{"ab", "", long(70), "\x40", wal.Frame("z"), ""}
	s := framesOf(records...)
	whole, begin := 0, 0
	for cut := range len(s) + 1 {
		if whole < len(records) && cut == begin+len(wal.Frame(records[whole])) {
			begin = cut
			whole++
		}
		if got, n := wal.Split(s[:cut]); !slices.Equal(got, records[:whole]) || n != begin {
			t.Errorf("Split of the first %d bytes = %q, %d; want %q, %d", cut, got, n, records[:whole], begin)
		}
	}
	if whole != len(records) {
		t.Errorf("%d frames were whole at the end", whole)
	}
}

// P12.1: where a byte is another one, it ends with the frame ahead of that byte's, also where whole frames stand behind it.
func TestSplitOfOtherBytes(t *testing.T) {
	records := []string{"ab", "", "middle", long(70), "last"}
	s := framesOf(records...)
	begin := 0
	for i, record := range records {
		end := begin + len(wal.Frame(record))
		for at := begin; at < end; at++ {
			for other := range 256 {
				if byte(other) == s[at] {
					continue
				}
				bad := s[:at] + string([]byte{byte(other)}) + s[at+1:]
				if got, n := wal.Split(bad); !slices.Equal(got, records[:i]) || n != begin {
					t.Fatalf("Split with the byte %d (of the frame %d) as %x = %q, %d; want %q, %d", at, i, other, got, n, records[:i], begin)
				}
			}
		}
		begin = end
	}
}

// P12.1: a byte that is missing, or one too many, between frames and within one.
func TestSplitOfMovedBytes(t *testing.T) {
	a, b := wal.Frame("first"), wal.Frame("second")
	for at := range len(b) {
		if got, n := wal.Split(a + b[:at] + b[at+1:]); !slices.Equal(got, []string{"first"}) || n != len(a) {
			t.Errorf("Split without the byte %d of the second frame = %q, %d", at, got, n)
		}
		if got, n := wal.Split(a + b[:at] + "\x00" + b[at:] + a); !slices.Equal(got, []string{"first"}) || n != len(a) {
			t.Errorf("Split with a byte ahead of the byte %d of the second frame = %q, %d", at, got, n)
		}
	}
}

// P12.1: a record of more than MaxRecord bytes ends it, though its frame is whole and its sum right.
func TestSplitOfTooLong(t *testing.T) {
	most, over := wal.Frame(long(api.MaxRecord)), wal.Frame(long(api.MaxRecord+1))
	for _, x := range []struct {
		name, s string
		records int
		size    int
	}{
		{"the longest", most, 1, len(most)},
		{"one more", over, 0, 0},
		{"many more", wal.Frame(long(3 * api.MaxRecord)), 0, 0},
		{"one more in the middle", most + over + most, 1, len(most)},
		{"one more behind a short one", wal.Frame("") + over, 1, 5},
	} {
		if got, n := wal.Split(x.s); len(got) != x.records || n != x.size {
			t.Errorf("%s: Split = %d records, %d; want %d, %d", x.name, len(got), n, x.records, x.size)
		}
	}
}

// P12.1: bytes that are no frame: lengths in no form, or below 0, or of more than there is, and wrong sums.
func TestSplitOfNoFrames(t *testing.T) {
	for _, s := range []string{
		"\x00", "\x01", "\x40", "\x80", "\xff", "\x00\x00\x00\x00\x00\x00\x00\x00\x00\x00",
		crc.Put(""),
		crc.Put("\x00\x40"),          // a length's first group is never 0
		crc.Put("\x80"),              // -1
		crc.Put("\x01\x80"),          // -65
		crc.Put("\xc0"),              // no number
		crc.Put("\x41"),              // less than its length tells
		crc.Put("\x40a"),             // more than its length tells
		"\x44\x00\x00\x00\x00",       // a text of as many bytes as a sum has, without a sum
		"\x43" + crc.Put("\x43")[1:], // a text whose own end would be the sum
		strings.Repeat("\x3f", 9) + "\x7f",
		strings.Repeat("\x3f", 10) + "\x7f",
		"\x1f\x3f\x3f\x3f\x3f\x3f\x3f\x3f\x3f\x3f\x7fabc",
		"\x40\x00\x00\x00\x00",
		"any text",
	} {
		if got, n := wal.Split(s); len(got) != 0 || n != 0 {
			t.Errorf("Split(%x) = %q, %d; want nothing", s, got, n)
		}
		ahead := wal.Frame("ahead")
		if got, n := wal.Split(ahead + s + ahead); !slices.Equal(got, []string{"ahead"}) || n != len(ahead) {
			t.Errorf("Split with %x behind the first frame = %q, %d; want ahead, %d", s, got, n, len(ahead))
		}
	}
}

// P12.1: two answers share no memory, spare room included.
func TestSplitIsNew(t *testing.T) {
	s := framesOf("a", "b", "c")
	one, _ := wal.Split(s)
	two, _ := wal.Split(s)
	one[0] = "other"
	one = append(one[:1], "others", "others", "others")
	if !slices.Equal(two, []string{"a", "b", "c"}) || len(one) != 4 {
		t.Errorf("what was written into one answer is seen in another: %q", two)
	}
	if again, n := wal.Split(s); !slices.Equal(again, two) || n != len(s) {
		t.Errorf("Split again = %q, %d", again, n)
	}
}

// P12.2: a log in each tier: an empty file, by one change, that isn't sure.
func TestBegin(t *testing.T) {
	for _, tier := range []api.Tier{api.Hot, api.Cold} {
		for _, file := range []int{1, 7, math.MaxInt} {
			d, _ := disk.New(2, 2)
			l, e := wal.Begin(d, tier, file)
			if l == nil || e != api.OK {
				t.Fatalf("Begin(%d, %d) = %v, %d", tier, file, l, e)
			}
			if l.File() != file || d.Steps() != 1 || !slices.Equal(d.Files(), []int{file}) {
				t.Errorf("Begin(%d, %d): File = %d, %d changes, files %v", tier, file, l.File(), d.Steps(), d.Files())
			}
			if size, at, e := d.Size(file); size != 0 || at != tier || e != api.OK {
				t.Errorf("Begin(%d, %d): Size = %d, %d, %d", tier, file, size, at, e)
			}
			wantCounts(t, "a new log", l, 0, 0, 0)
			wantReplay(t, "a new log", d, file, true)
			d.Back()
			wantNoReplay(t, "a new log that isn't sure", d, file, api.ErrNone)
		}
	}
}

// P12.2: the disk's errors of making the file; then there is no log, and nothing has changed.
func TestBeginRefused(t *testing.T) {
	for _, x := range []struct {
		name string
		tier api.Tier
		file int
		want api.Errno
	}{
		{"a tier below", -1, 3, api.ErrArg},
		{"a tier above", 2, 3, api.ErrArg},
		{"a file 0", api.Hot, 0, api.ErrArg},
		{"a file below 0", api.Hot, -5, api.ErrArg},
		{"the least file", api.Hot, math.MinInt, api.ErrArg},
		{"a file that is there", api.Hot, 1, api.ErrThere},
		{"a file that is there, in the other tier", api.Cold, 1, api.ErrThere},
		{"a tier that is full", api.Cold, 3, api.ErrFull},
		{"a file that is there, a tier that is full", api.Cold, 2, api.ErrThere},
	} {
		d, _ := disk.New(5, 1)
		wantOK(t, "Make", d.Make(api.Hot, 1))
		wantOK(t, "Add", d.Add(1, "there"))
		wantOK(t, "Make", d.Make(api.Cold, 2))
		if l, e := wal.Begin(d, x.tier, x.file); l != nil || e != x.want {
			t.Errorf("%s: Begin = %v, %d; want no log, %d", x.name, l, e, x.want)
		}
		if d.Steps() != 3 || !slices.Equal(d.Files(), []int{1, 2}) {
			t.Errorf("%s: %d changes, files %v", x.name, d.Steps(), d.Files())
		}
		wantBytes(t, x.name, d, 1, "there")
	}
}

// P12.2, P12.5: a disk that is down, one whose power goes just then, and none.
func TestBeginDown(t *testing.T) {
	d, _ := disk.New(5, 5)
	d.Arm(0)
	for _, name := range []string{"the power goes", "the power is gone"} {
		if l, e := wal.Begin(d, api.Hot, 1); l != nil || e != api.ErrDown {
			t.Errorf("%s: Begin = %v, %d", name, l, e)
		}
	}
	if l, e := wal.Begin(d, -1, 0); l != nil || e != api.ErrDown {
		t.Errorf("Begin of nothing on a disk that is down = %v, %d", l, e)
	}
	if l, e := wal.Begin(nil, api.Hot, 1); l != nil || e != api.ErrDown {
		t.Errorf("Begin on a nil disk = %v, %d", l, e)
	}
	if l, e := wal.Begin(nil, 5, -1); l != nil || e != api.ErrDown {
		t.Errorf("Begin of nothing on a nil disk = %v, %d", l, e)
	}
	d.Back()
	if d.Steps() != 0 || len(d.Files()) != 0 {
		t.Errorf("%d changes, files %v", d.Steps(), d.Files())
	}
	if l, e := wal.Begin(d, api.Hot, 1); l == nil || e != api.OK {
		t.Errorf("Begin with the power back = %v, %d", l, e)
	}
}

// P12.3: what is added waits, and the disk doesn't change.
func TestAdd(t *testing.T) {
	d, l := begun(t, 3)
	for i, record := range []string{"", "a", "a", long(5000)} {
		wantOK(t, "Add", l.Add(record))
		wantCounts(t, "Add", l, i+1, 0, 0)
	}
	if d.Steps() != 1 {
		t.Errorf("%d changes of the disk behind Adds", d.Steps())
	}
	wantReplay(t, "nothing was written", d, 1, true)
}

// P12.3: a record of MaxRecord bytes, and of one more, which doesn't wait.
func TestAddTooLong(t *testing.T) {
	d, l := begun(t, api.MaxBlocks)
	for _, n := range []int{api.MaxRecord + 1, api.MaxRecord + 2, 4 * api.MaxRecord} {
		if e := l.Add(long(n)); e != api.ErrLong {
			t.Errorf("Add of %d bytes = %d", n, e)
		}
		wantCounts(t, "a record that is too long", l, 0, 0, 0)
	}
	wantOK(t, "Add of MaxRecord bytes", l.Add(long(api.MaxRecord)))
	wantOK(t, "Add", l.Add("x"))
	if e := l.Add(long(api.MaxRecord + 1)); e != api.ErrLong {
		t.Errorf("Add of one more = %d", e)
	}
	wantCounts(t, "two wait", l, 2, 0, 0)
	wantOK(t, "Write", l.Write())
	wantReplay(t, "written", d, 1, true, long(api.MaxRecord), "x")
}

// P12.3: a disk that is down doesn't keep a record from waiting.
func TestAddDown(t *testing.T) {
	d, l := begun(t, 3)
	wantOK(t, "Add", l.Add("a"))
	d.Arm(0)
	if e := l.Write(); e != api.ErrDown || !d.Down() {
		t.Fatalf("Write = %d", e)
	}
	wantOK(t, "Add on a disk that is down", l.Add("b"))
	wantCounts(t, "two wait", l, 2, 0, 0)
	if e := l.Add(long(api.MaxRecord + 1)); e != api.ErrLong {
		t.Errorf("Add of one more on a disk that is down = %d", e)
	}
}

// P12.3: Write of none is no change, and goes well wherever.
func TestWriteOfNone(t *testing.T) {
	d, l := begun(t, 1)
	wantOK(t, "Write of none", l.Write())
	wantOK(t, "Write of none again", l.Write())
	if d.Steps() != 1 {
		t.Errorf("%d changes", d.Steps())
	}
	d.Arm(0)
	wantOK(t, "Write of none ahead of the power's going", l.Write())
	if d.Down() {
		t.Error("Write of none let the power go")
	}
	if e := l.Sync(); e != api.ErrDown {
		t.Errorf("Sync = %d", e)
	}
	wantOK(t, "Write of none without power", l.Write())
	d.Back()
	wantOK(t, "Write of none into no file", l.Write())
	wantCounts(t, "none", l, 0, 0, 0)
}

// P12.3: one, and then many that wait: each time one change, the frames in their order at the file's end.
func TestWrite(t *testing.T) {
	d, l := begun(t, 1000)
	wantOK(t, "Add", l.Add("one"))
	wantOK(t, "Write", l.Write())
	wantCounts(t, "one", l, 0, 1, 0)
	wantBytes(t, "one", d, 1, wal.Frame("one"))
	if d.Steps() != 2 {
		t.Errorf("one: %d changes", d.Steps())
	}
	records := []string{"one"}
	for i := range 100 {
		record := strings.Repeat("r", i%7) + fmt.Sprint(i)
		records = append(records, record)
		wantOK(t, "Add", l.Add(record))
	}
	wantCounts(t, "many wait", l, 100, 1, 0)
	wantOK(t, "Write", l.Write())
	wantCounts(t, "many", l, 0, 101, 0)
	wantBytes(t, "many", d, 1, framesOf(records...))
	wantReplay(t, "many", d, 1, true, records...)
	if d.Steps() != 3 {
		t.Errorf("many: %d changes", d.Steps())
	}
	wantOK(t, "Write again", l.Write())
	wantBytes(t, "again", d, 1, framesOf(records...))
	if d.Steps() != 3 {
		t.Errorf("again: %d changes", d.Steps())
	}
}

// P12.3: where there is no room, all of them wait still, in their order, and can be written once there is.
func TestWriteWithoutRoom(t *testing.T) {
	d, l := begun(t, 4)
	wantOK(t, "Make", d.Make(api.Hot, 2))
	records := []string{"a", long(50), "b"}
	for _, record := range records[:2] {
		wantOK(t, "Add", l.Add(record))
	}
	wantOK(t, "Write", l.Write())
	wantOK(t, "Sync", l.Sync())
	more := []string{"c", long(100), "", "d"}
	for _, record := range more {
		wantOK(t, "Add", l.Add(record))
	}
	steps := d.Steps()
	for range 3 {
		if e := l.Write(); e != api.ErrFull {
			t.Errorf("Write without room = %d", e)
		}
		wantCounts(t, "no room", l, 4, 2, 2)
		wantBytes(t, "no room", d, 1, framesOf(records[:2]...))
	}
	if d.Steps() != steps {
		t.Errorf("no room: %d changes more", d.Steps()-steps)
	}
	wantOK(t, "Add", l.Add("e"))
	wantOK(t, "Drop", d.Drop(2))
	wantOK(t, "Write with room", l.Write())
	wantCounts(t, "room", l, 0, 7, 2)
	wantReplay(t, "room", d, 1, true, "a", long(50), "c", long(100), "", "d", "e")
}

// P12.3: just the room that there is, and a byte more.
func TestWriteIntoTheLastRoom(t *testing.T) {
	d, l := begun(t, 2)
	wantOK(t, "Add", l.Add(long(60))) // a frame of 65 bytes
	if e := l.Write(); e != api.ErrFull {
		t.Errorf("Write of 65 bytes into a block = %d", e)
	}
	l.Clear()
	wantOK(t, "Add", l.Add(long(59)))
	wantOK(t, "Write of 64 bytes into a block", l.Write())
	wantOK(t, "Add", l.Add(""))
	if e := l.Write(); e != api.ErrFull {
		t.Errorf("Write of 5 bytes more = %d", e)
	}
	wantReplay(t, "a full block", d, 1, true, long(59))
}

// P12.3: the file is gone, or the power is: the disk's error, and they wait still.
func TestWriteRefused(t *testing.T) {
	d, l := begun(t, 9)
	wantOK(t, "Add", l.Add("a"))
	wantOK(t, "Write", l.Write())
	wantOK(t, "Add", l.Add("b"))
	wantOK(t, "Drop", d.Drop(1))
	if e := l.Write(); e != api.ErrNone {
		t.Errorf("Write into no file = %d", e)
	}
	wantCounts(t, "no file", l, 1, 1, 0)
	wantOK(t, "Make", d.Make(api.Hot, 2))
	d.Arm(0)
	if e := d.Sync(2); e != api.ErrDown {
		t.Fatalf("Sync(2) = %d", e)
	}
	if e := l.Write(); e != api.ErrDown {
		t.Errorf("Write without power = %d", e)
	}
	wantCounts(t, "no power", l, 1, 1, 0)
	d.Back()
	if e := l.Write(); e != api.ErrNone {
		t.Errorf("Write into no file, with the power back = %d", e)
	}
	wantCounts(t, "no file, the power back", l, 1, 1, 0)
}

// P12.3: a Write that the power cuts off: they wait still, and the file has the beginning of their frames.
func TestWriteCutOff(t *testing.T) {
	frames := framesOf("b", "c")
	for kept := range len(frames) + 1 {
		d, l := begun(t, 9)
		wantOK(t, "Add", l.Add("a"))
		wantOK(t, "Write", l.Write())
		wantOK(t, "Sync", l.Sync())
		wantOK(t, "Add", l.Add("b"))
		wantOK(t, "Add", l.Add("c"))
		d.Arm(0)
		if e := l.Write(); e != api.ErrDown {
			t.Fatalf("Write = %d", e)
		}
		wantCounts(t, "cut off", l, 2, 1, 1)
		d.Back(api.Keep{File: 1, Bytes: kept})
		wantCounts(t, "the power is back", l, 2, 1, 1)
		wantBytes(t, "cut off", d, 1, wal.Frame("a")+frames[:kept])
		n := []int{0, 6, 12}
		records := []string{"a", "b", "c"}[:1+kept/6]
		wantReplay(t, fmt.Sprint(kept, " bytes kept"), d, 1, slices.Contains(n, kept), records...)
	}
}

// P12.3: Clear lets go what waits, and nothing else.
func TestClear(t *testing.T) {
	d, l := begun(t, 9)
	l.Clear()
	wantCounts(t, "Clear with none", l, 0, 0, 0)
	wantOK(t, "Add", l.Add("a"))
	wantOK(t, "Write", l.Write())
	wantOK(t, "Sync", l.Sync())
	wantOK(t, "Add", l.Add("b"))
	wantOK(t, "Write", l.Write())
	l.Clear()
	wantCounts(t, "Clear with none, some written", l, 0, 2, 1)
	wantOK(t, "Add", l.Add("c"))
	wantOK(t, "Add", l.Add("d"))
	wantCounts(t, "two wait", l, 2, 2, 1)
	steps := d.Steps()
	l.Clear()
	wantCounts(t, "Clear with two", l, 0, 2, 1)
	wantOK(t, "Write behind Clear", l.Write())
	if d.Steps() != steps {
		t.Errorf("%d changes behind Clear", d.Steps()-steps)
	}
	wantOK(t, "Add", l.Add("e"))
	wantOK(t, "Write", l.Write())
	wantCounts(t, "one more", l, 0, 3, 1)
	wantReplay(t, "what was cleared is gone", d, 1, true, "a", "b", "e")
}

// P12.3: what couldn't be written can be let go as well.
func TestClearBehindNoRoom(t *testing.T) {
	d, l := begun(t, 2)
	wantOK(t, "Add", l.Add(long(100)))
	if e := l.Write(); e != api.ErrFull {
		t.Fatalf("Write = %d", e)
	}
	l.Clear()
	wantOK(t, "Write", l.Write())
	wantOK(t, "Add", l.Add("short"))
	wantOK(t, "Write", l.Write())
	wantReplay(t, "the short one alone", d, 1, true, "short")
}

// P12.3: Sync makes sure what was written, not what waits, by one change, also where nothing was.
func TestSync(t *testing.T) {
	d, l := begun(t, 9)
	wantOK(t, "Sync of none", l.Sync())
	wantCounts(t, "Sync of none", l, 0, 0, 0)
	if d.Steps() != 2 {
		t.Errorf("Sync of none: %d changes", d.Steps())
	}
	d.Back()
	wantReplay(t, "a log that is sure", d, 1, true)
	wantOK(t, "Add", l.Add("a"))
	wantOK(t, "Add", l.Add("b"))
	wantOK(t, "Sync", l.Sync())
	wantCounts(t, "two wait", l, 2, 0, 0)
	wantOK(t, "Write", l.Write())
	wantCounts(t, "two are written", l, 0, 2, 0)
	wantOK(t, "Add", l.Add("c"))
	wantOK(t, "Sync", l.Sync())
	wantCounts(t, "two are sure", l, 1, 2, 2)
	wantOK(t, "Write", l.Write())
	wantCounts(t, "a third is written", l, 0, 3, 2)
	if d.Steps() != 6 {
		t.Errorf("%d changes", d.Steps())
	}
	d.Back()
	wantReplay(t, "what was sure", d, 1, true, "a", "b")
}

// P12.3: the disk's errors of Sync; then no more is sure than was.
func TestSyncRefused(t *testing.T) {
	d, l := begun(t, 9)
	wantOK(t, "Add", l.Add("a"))
	wantOK(t, "Write", l.Write())
	wantOK(t, "Sync", l.Sync())
	wantOK(t, "Add", l.Add("b"))
	wantOK(t, "Write", l.Write())
	d.Arm(0)
	for _, name := range []string{"the power goes", "the power is gone"} {
		if e := l.Sync(); e != api.ErrDown {
			t.Errorf("%s: Sync = %d", name, e)
		}
		wantCounts(t, name, l, 0, 2, 1)
	}
	d.Back()
	wantReplay(t, "the power is back", d, 1, true, "a")
	wantOK(t, "Drop", d.Drop(1))
	if e := l.Sync(); e != api.ErrNone {
		t.Errorf("Sync of no file = %d", e)
	}
	wantCounts(t, "no file", l, 0, 2, 1)
}

// P12.3: two logs on one disk have nothing of each other.
func TestTwoLogs(t *testing.T) {
	d, l := begun(t, 9)
	other, e := wal.Begin(d, api.Hot, 2)
	wantOK(t, "Begin", e)
	wantOK(t, "Add", l.Add("a"))
	wantOK(t, "Add", other.Add("x"))
	wantOK(t, "Add", other.Add("y"))
	wantOK(t, "Write", l.Write())
	wantCounts(t, "the first one", l, 0, 1, 0)
	wantCounts(t, "the other one", other, 2, 0, 0)
	wantOK(t, "Write", other.Write())
	wantOK(t, "Sync", other.Sync())
	wantCounts(t, "the first one", l, 0, 1, 0)
	wantCounts(t, "the other one", other, 0, 2, 2)
	wantReplay(t, "the first one", d, 1, true, "a")
	wantReplay(t, "the other one", d, 2, true, "x", "y")
	d.Back()
	wantNoReplay(t, "the first one", d, 1, api.ErrNone)
	wantReplay(t, "the other one", d, 2, true, "x", "y")
}

// P12.4: the disk's errors, with nothing beside them.
func TestReplayRefused(t *testing.T) {
	d, l := begun(t, 9)
	wantOK(t, "Add", l.Add("a"))
	wantOK(t, "Write", l.Write())
	wantOK(t, "Sync", l.Sync())
	for _, file := range []int{2, 0, -1, math.MinInt, math.MaxInt} {
		wantNoReplay(t, "no file", d, file, api.ErrNone)
	}
	d.Arm(0)
	wantReplay(t, "the power is there still", d, 1, true, "a")
	if d.Down() {
		t.Error("Replay let the power go")
	}
	if e := d.Drop(1); e != api.ErrDown {
		t.Fatalf("Drop = %d", e)
	}
	wantNoReplay(t, "no power", d, 1, api.ErrDown)
	wantNoReplay(t, "no power and no file", d, 2, api.ErrDown)
	wantNoReplay(t, "no disk", nil, 1, api.ErrDown)
	d.Back()
	wantReplay(t, "the power is back", d, 1, true, "a")
}

// P12.4: files of other bytes than a log's, ones that are cut off, and whether the records are all of the bytes.
func TestReplayOfAnyFile(t *testing.T) {
	for _, x := range []struct {
		name, s string
		whole   bool
		records []string
	}{
		{"no bytes", "", true, nil},
		{"other bytes", "other bytes", false, nil},
		{"a byte", "\x40", false, nil},
		{"a frame", wal.Frame("a"), true, []string{"a"}},
		{"frames", framesOf("a", "", "b"), true, []string{"a", "", "b"}},
		{"an empty record", wal.Frame(""), true, []string{""}},
		{"frames and a byte more", framesOf("a", "b") + "\x00", false, []string{"a", "b"}},
		{"frames and the beginning of one", framesOf("a", "b") + "\x41c", false, []string{"a", "b"}},
		{"a cut off frame", framesOf("a", "b")[:11], false, []string{"a"}},
		{"a wrong frame ahead of a right one", "\x40\x00\x00\x00\x00" + wal.Frame("a"), false, nil},
		{"a record that is too long", wal.Frame("a") + wal.Frame(long(api.MaxRecord+1)), false, []string{"a"}},
	} {
		for _, tier := range []api.Tier{api.Hot, api.Cold} {
			d, _ := disk.New(api.MaxBlocks, api.MaxBlocks)
			wantOK(t, "Make", d.Make(tier, 4))
			wantOK(t, "Add", d.Add(4, x.s))
			wantReplay(t, x.name, d, 4, x.whole, x.records...)
			if d.Steps() != 2 {
				t.Errorf("%s: %d changes behind Replay", x.name, d.Steps())
			}
		}
	}
}

// P12.4: a log's file ahead of Write, behind it, and behind Sync; what waits isn't told.
func TestReplayOfALog(t *testing.T) {
	d, l := begun(t, 9)
	wantOK(t, "Add", l.Add("a"))
	wantReplay(t, "one waits", d, 1, true)
	wantOK(t, "Write", l.Write())
	wantReplay(t, "ahead of Sync", d, 1, true, "a")
	wantOK(t, "Sync", l.Sync())
	wantReplay(t, "behind Sync", d, 1, true, "a")
	wantOK(t, "Add", l.Add("b"))
	wantReplay(t, "one more waits", d, 1, true, "a")
	wantOK(t, "Write", l.Write())
	one, _, _ := wal.Replay(d, 1)
	one[0] = "other"
	wantReplay(t, "behind the writing into an answer", d, 1, true, "a", "b")
}

// P12.5: of a nil log.
func TestNilLog(t *testing.T) {
	var l *wal.Log
	for _, record := range []string{"", "a", long(api.MaxRecord + 1)} {
		if e := l.Add(record); e != api.ErrArg {
			t.Errorf("Add of %d bytes = %d", len(record), e)
		}
	}
	if e := l.Write(); e != api.ErrArg {
		t.Errorf("Write = %d", e)
	}
	if e := l.Sync(); e != api.ErrArg {
		t.Errorf("Sync = %d", e)
	}
	l.Clear()
	if n := l.File(); n != 0 {
		t.Errorf("File = %d", n)
	}
	wantCounts(t, "nil", l, 0, 0, 0)
}

// groups are what a log is given in the tests of losses of power: what waits for each Write, and whether a Sync follows.
var groups = []struct {
	records []string
	sync    bool
}{
	{[]string{"a"}, true},
	{[]string{"b", "", "c"}, false},
	{[]string{long(64)}, true},
	{[]string{"", ""}, false},
	{[]string{wal.Frame("d"), "e"}, false},
	{[]string{"f"}, true},
	{[]string{"g", long(70)}, false},
}

// run gives a log the groups up to a loss of power. It answers all records that a Write was asked for, and how many of them are sure.
func run(t *testing.T, d *disk.Disk) (asked []string, sure int) {
	t.Helper()
	l, e := wal.Begin(d, api.Cold, 5)
	for _, group := range groups {
		if e != api.OK {
			break
		}
		for _, record := range group.records {
			wantOK(t, "Add", l.Add(record))
		}
		asked = append(asked, group.records...)
		if e = l.Write(); e == api.OK && group.sync {
			e = l.Sync()
		}
	}
	if e != api.OK && e != api.ErrDown {
		t.Fatalf("the log answered %d", e)
	}
	_, _, sure = l.Counts()
	return asked, sure
}

// P12.6: the power goes at each change, and behind the last one, and any number of bytes is kept.
func TestPower(t *testing.T) {
	d, _ := disk.New(9, 99)
	run(t, d)
	changes := d.Steps()
	if changes != 1+len(groups)+3 {
		t.Fatalf("%d changes", changes)
	}
	for n := range changes + 1 {
		for kept := -1; ; kept++ {
			d, _ := disk.New(9, 99)
			d.Arm(n)
			asked, sure := run(t, d)
			if d.Down() != (n < changes) {
				t.Fatalf("behind %d changes: down is %t", n, d.Down())
			}
			d.Back(api.Keep{File: 5, Bytes: kept})
			size := wantFirst(t, d, n, kept, asked, sure)
			if kept > size {
				break
			}
		}
	}
}

// wantFirst wants Replay to tell the first ones of the records, the sure ones among them, and no fewer than the file has. It answers how many bytes the file has.
func wantFirst(t *testing.T, d *disk.Disk, n, kept int, asked []string, sure int) int {
	t.Helper()
	size, _, there := d.Size(5)
	got, whole, e := wal.Replay(d, 5)
	if e != there || e != api.OK && (n > 0 || e != api.ErrNone) {
		t.Fatalf("behind %d changes, %d bytes kept: Replay = %d, Size %d", n, kept, e, there)
	}
	if len(got) < sure || len(got) > len(asked) || !slices.Equal(got, asked[:len(got)]) {
		t.Fatalf("behind %d changes, %d bytes kept: Replay = %q; want the first ones of %q, %d at least", n, kept, got, asked, sure)
	}
	frames := framesOf(asked...)
	told := len(framesOf(got...))
	if told > size || whole != (e == api.OK && told == size) {
		t.Fatalf("behind %d changes, %d bytes kept: Replay tells %d bytes of %d, whole is %t", n, kept, told, size, whole)
	}
	if next := len(got); next < len(asked) && told+len(wal.Frame(asked[next])) <= size {
		t.Fatalf("behind %d changes, %d bytes kept: a whole frame more stands there", n, kept)
	}
	if s, _ := d.Read(5, 0, size); !strings.HasPrefix(frames, s) {
		t.Fatalf("behind %d changes, %d bytes kept: the file has %x", n, kept, s)
	}
	return size
}

// P12.6: without a Keep there is just what is sure, wherever the power goes.
func TestPowerKeepsNothing(t *testing.T) {
	for n := range 2 + len(groups) + 3 {
		d, _ := disk.New(9, 99)
		d.Arm(n)
		asked, sure := run(t, d)
		d.Back()
		if sure == 0 {
			wantNoReplay(t, fmt.Sprint(n, " changes"), d, 5, api.ErrNone)
			continue
		}
		wantReplay(t, fmt.Sprint(n, " changes"), d, 5, true, asked[:sure]...)
	}
}

// P12.6: a second loss of power takes nothing more away.
func TestPowerTwice(t *testing.T) {
	d, _ := disk.New(9, 99)
	d.Arm(9)
	asked, sure := run(t, d)
	d.Back(api.Keep{File: 5, Bytes: 13})
	first, _, _ := wal.Replay(d, 5)
	d.Back()
	wantReplay(t, "the second loss", d, 5, false, first...)
	if len(first) <= sure || !slices.Equal(first, asked[:len(first)]) {
		t.Errorf("%d records behind the first loss, of which %d were sure", len(first), sure)
	}
}
