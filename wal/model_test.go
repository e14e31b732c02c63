package wal_test

import (
	"fmt"
	"hash/crc32"
	"math/rand/v2"
	"slices"
	"strings"
	"testing"

	"silo/api"
	"silo/disk"
	"silo/wal"
)

// paperHead is a length worked out another way: its groups from the lowest one up.
func paperHead(n int) string {
	head := string([]byte{byte(64 + n%64)})
	for n /= 64; n > 0; n /= 64 {
		head = string([]byte{byte(n % 64)}) + head
	}
	return head
}

// paperFrame is a frame worked out another way: its sum by a table of the library.
func paperFrame(record string) string {
	frame := paperHead(len(record)) + record
	sum := crc32.Checksum([]byte(frame), crc32.MakeTable(crc32.Castagnoli))
	return frame + string([]byte{byte(sum >> 24), byte(sum >> 16), byte(sum >> 8), byte(sum)})
}

// paperSplit is a splitting worked out another way: whatever stands in a place is held against the frame of each record that could stand there.
func paperSplit(s string) ([]string, int) {
	at := 0
	var records []string
	for size := 0; size <= min(len(s)-at, 1<<20); size++ {
		head := len(paperHead(size))
		if at+head+size > len(s) {
			break
		}
		record := s[at+head : at+head+size]
		if strings.HasPrefix(s[at:], paperFrame(record)) {
			records = append(records, record)
			at += head + size + 4
			size = -1
		}
	}
	return records, at
}

// wantSplit wants Split to answer what the other working-out does.
func wantSplit(t *testing.T, name, s string) ([]string, int) {
	t.Helper()
	want, size := paperSplit(s)
	got, n := wal.Split(s)
	if !slices.Equal(got, want) || n != size {
		t.Errorf("%s: Split(%x) = %q, %d; want %q, %d", name, s, got, n, want, size)
	}
	return got, n
}

// drawRecord draws a record: empty, short, of some hundred bytes, or one that bears a frame itself.
func drawRecord(r *rand.Rand) string {
	size := []int{0, r.IntN(4), r.IntN(4), 60 + r.IntN(8), r.IntN(300)}[r.IntN(5)]
	bytes := make([]byte, size)
	for i := range bytes {
		bytes[i] = byte(r.IntN(256))
	}
	if r.IntN(8) == 0 {
		return wal.Frame(string(bytes))
	}
	return string(bytes)
}

// P12.1: Frame is the other working-out's, of all short lengths, of those about each new group, and of the longest.
func TestFramesOfAllLengths(t *testing.T) {
	var sizes []int
	for n := range 300 {
		sizes = append(sizes, n)
	}
	for _, n := range []int{64 * 64, 64 * 64 * 64, 1 << 20} {
		sizes = append(sizes, n-1, n, n+1)
	}
	for _, n := range sizes {
		record := strings.Repeat("record", n/6+1)[:n]
		frame := wal.Frame(record)
		if frame != paperFrame(record) {
			t.Fatalf("Frame of %d bytes isn't what the other working-out tells", n)
		}
		want := []string{record}
		size := len(frame)
		if n > 1<<20 {
			want, size = nil, 0
		}
		if got, k := wal.Split(frame); !slices.Equal(got, want) || k != size {
			t.Errorf("Split of the frame of %d bytes = %d records, %d; want %d, %d", n, len(got), k, len(want), size)
		}
	}
}

// P12.1: all texts of up to two bytes, and all of five whose sum is right for their first byte.
func TestSplitOfAllShortTexts(t *testing.T) {
	for a := range 256 {
		wantSplit(t, "one byte", string([]byte{byte(a)}))
		for b := range 256 {
			wantSplit(t, "two bytes", string([]byte{byte(a), byte(b)}))
		}
	}
	sum := crc32.MakeTable(crc32.Castagnoli)
	for a := range 256 {
		head := []byte{byte(a)}
		c := crc32.Checksum(head, sum)
		s := string(append(head, byte(c>>24), byte(c>>16), byte(c>>8), byte(c)))
		if got, _ := wantSplit(t, "a byte and its sum", s); len(got) != 0 != (a == 64) {
			t.Errorf("Split of the byte %x and its sum = %q", a, got)
		}
	}
}

// P12.1: drawn frames in a row, with any bytes behind them, or with a byte that is another one, left out or put in.
func TestSplitOfDrawnBytes(t *testing.T) {
	r := rand.New(rand.NewPCG(12, 1))
	whole, cut := 0, 0
	for range 3000 {
		s := ""
		for range r.IntN(5) {
			s += paperFrame(drawRecord(r))
		}
		at := r.IntN(len(s) + 1)
		switch r.IntN(5) {
		case 0:
			s += drawRecord(r)
		case 1:
			s = s[:at]
		case 2:
			s = s[:at] + string([]byte{byte(r.IntN(256))}) + s[min(at+1, len(s)):]
		case 3:
			s = s[:at] + string([]byte{byte(r.IntN(256))}) + s[at:]
		}
		if _, n := wantSplit(t, "drawn", s); n == len(s) {
			whole++
		} else {
			cut++
		}
	}
	if min(whole, cut) < 500 {
		t.Errorf("%d drawn texts were whole, %d weren't: too few", whole, cut)
	}
}

// paper is a log worked out another way: its records stand in a list each, and what they do to a disk is done to one beside it.
type paper struct {
	d                      *disk.Disk
	file                   int
	waiting, written, sure []string
}

func (p *paper) add(record string) api.Errno {
	if len(record) > 1<<20 {
		return api.ErrLong
	}
	p.waiting = append(p.waiting, record)
	return api.OK
}

func (p *paper) write() api.Errno {
	frames := ""
	for _, record := range p.waiting {
		frames += paperFrame(record)
	}
	if len(p.waiting) > 0 {
		if e := p.d.Add(p.file, frames); e != api.OK {
			return e
		}
	}
	p.written = append(p.written, p.waiting...)
	p.waiting = nil
	return api.OK
}

func (p *paper) sync() api.Errno {
	e := p.d.Sync(p.file)
	if e == api.OK {
		p.sure = slices.Clone(p.written)
	}
	return e
}

// pair is a log and its other working-out, each with a disk of its own.
type pair struct {
	t    *testing.T
	said []string // what was done
	d    *disk.Disk
	l    *wal.Log
	p    *paper
}

func newPair(t *testing.T, hot, cold int, tier api.Tier, file int) *pair {
	t.Helper()
	d, _ := disk.New(hot, cold)
	beside, _ := disk.New(hot, cold)
	x := &pair{t: t, d: d, p: &paper{d: beside, file: file}}
	var e api.Errno
	x.l, e = wal.Begin(d, tier, file)
	x.held("Begin", e, beside.Make(tier, file))
	return x
}

// held holds what was done, and all that can be told then, against the other working-out.
func (x *pair) held(what string, got, want api.Errno) {
	x.t.Helper()
	x.said = append(x.said, what)
	if got != want {
		x.t.Fatalf("%s = %d; want %d", strings.Join(x.said, ", "), got, want)
	}
	a, b, c := x.l.Counts()
	if a != len(x.p.waiting) || b != len(x.p.written) || c != len(x.p.sure) {
		x.t.Fatalf("%s: Counts = %d, %d, %d; want %d, %d, %d", strings.Join(x.said, ", "), a, b, c, len(x.p.waiting), len(x.p.written), len(x.p.sure))
	}
	if x.l.File() != x.p.file {
		x.t.Fatalf("%s: File = %d; want %d", strings.Join(x.said, ", "), x.l.File(), x.p.file)
	}
	if has, should := diskTold(x.d), diskTold(x.p.d); has != should {
		x.t.Fatalf("%s: the disk is %s; want %s", strings.Join(x.said, ", "), has, should)
	}
	x.heldReplay()
}

// heldReplay holds what Replay tells against the other splitting of the other disk's bytes.
func (x *pair) heldReplay() {
	x.t.Helper()
	got, whole, e := wal.Replay(x.d, x.p.file)
	size, _, want := x.p.d.Size(x.p.file)
	s, _ := x.p.d.Read(x.p.file, 0, size)
	records, n := paperSplit(s)
	if !slices.Equal(got, records) || whole != (want == api.OK && n == size) || e != want {
		x.t.Fatalf("%s: Replay = %q, %t, %d; want %q of %d bytes, %d", strings.Join(x.said, ", "), got, whole, e, records, size, want)
	}
}

// diskTold tells all of a disk that can be asked.
func diskTold(d *disk.Disk) string {
	told := fmt.Sprint(d.Down(), d.Steps(), d.Root(), d.Used(api.Hot), d.Used(api.Cold))
	for _, n := range d.Files() {
		size, tier, e := d.Size(n)
		s, _ := d.Read(n, 0, size)
		told += fmt.Sprintf(" %d: %d %d %x", n, tier, e, s)
	}
	return told
}

// step does one drawn thing to both.
func (x *pair) step(r *rand.Rand) {
	x.t.Helper()
	switch k := r.IntN(20); {
	case k < 7:
		record := drawRecord(r)
		x.held(fmt.Sprintf("Add(%x)", record), x.l.Add(record), x.p.add(record))
	case k < 11:
		x.held("Write", x.l.Write(), x.p.write())
	case k < 14:
		x.held("Sync", x.l.Sync(), x.p.sync())
	case k < 15:
		x.l.Clear()
		x.p.waiting = nil
		x.held("Clear", api.OK, api.OK)
	case k < 16:
		n := r.IntN(6) - 1
		x.d.Arm(n)
		x.p.d.Arm(n)
		x.held(fmt.Sprintf("Arm(%d)", n), api.OK, api.OK)
	case k < 18:
		keeps := []api.Keep{{File: x.p.file, Bytes: r.IntN(200)}}[:r.IntN(2)]
		x.d.Back(keeps...)
		x.p.d.Back(keeps...)
		x.held(fmt.Sprintf("Back(%v)", keeps), api.OK, api.OK)
	case k < 19:
		n := r.IntN(4) + 1
		x.held(fmt.Sprintf("Add to %d", n), x.d.Add(n, "other bytes"), x.p.d.Add(n, "other bytes"))
	default:
		n := r.IntN(4) + 1
		if r.IntN(3) == 0 {
			x.held(fmt.Sprintf("Drop(%d)", n), x.d.Drop(n), x.p.d.Drop(n))
		} else {
			x.held(fmt.Sprintf("Make(%d)", n), x.d.Make(api.Hot, n), x.p.d.Make(api.Hot, n))
		}
	}
}

// P12.2 to P12.4: drawn calls in a row, on disks with much room and with little, whose power goes, and from which files go.
func TestDrawnCalls(t *testing.T) {
	for seed := range uint64(400) {
		r := rand.New(rand.NewPCG(12, seed))
		tier := api.Tier(r.IntN(2))
		x := newPair(t, 3+r.IntN(40), 1+r.IntN(40), tier, 1+r.IntN(3))
		for range 60 {
			x.step(r)
		}
	}
}
