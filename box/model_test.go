package box_test

import (
	"fmt"
	"hash/crc32"
	"math/rand/v2"
	"slices"
	"strings"
	"testing"

	"silo/api"
	"silo/box"
	"silo/disk"
)

// The other working-out. Sums are the library's; a record's parts are taken off from the front, and what is left tells the place.

// paperSum answers bytes and their sum.
func paperSum(parts string) string {
	sum := crc32.Checksum([]byte(parts), crc32.MakeTable(crc32.Castagnoli))
	return parts + string([]byte{byte(sum >> 24), byte(sum >> 16), byte(sum >> 8), byte(sum)})
}

// paperNumber answers a number's bytes: its groups from the lowest one up.
func paperNumber(n int) string {
	s := string([]byte{byte(64 + n%64)})
	for n /= 64; n > 0; n /= 64 {
		s = string([]byte{byte(n % 64)}) + s
	}
	return s
}

// paperParts answers a record's bytes without the sum, whatever the record is.
func paperParts(r box.Record) string {
	mark := "\x40"
	if r.Patch {
		mark = "\x41" + string(r.Base[:])
	}
	return string(r.Key[:]) + mark + paperNumber(len(r.Body)) + r.Body
}

// paperPack is Pack worked out another way.
func paperPack(r box.Record) (string, api.Errno) {
	switch {
	case len(r.Body) > 8192:
		return "", api.ErrLong
	case !r.Patch && strings.Trim(string(r.Base[:]), "\x00") != "":
		return "", api.ErrArg
	}
	return paperSum(paperParts(r)), api.OK
}

// paperCount takes a number from 0 on off the front.
func paperCount(s string) (int, string, api.Errno) {
	n := 0
	for i, c := range []byte(s) {
		switch {
		case c >= 128 || c == 0 && i == 0 || n >= 1<<57:
			return 0, "", api.ErrForm
		case c >= 64:
			return n*64 + int(c) - 64, s[i+1:], api.OK
		}
		n = n*64 + int(c)
	}
	return 0, "", api.ErrShort
}

// paperTake takes a record's parts off the front.
func paperTake(s string) (r box.Record, rest string, e api.Errno) {
	if len(s) < 32 {
		return r, "", api.ErrShort
	}
	r.Key = api.Key([]byte(s[:32]))
	n, s, e := paperCount(s[32:])
	if e != api.OK {
		return r, "", e
	}
	if n > 1 {
		return r, "", api.ErrForm
	}
	if r.Patch = n == 1; r.Patch {
		if len(s) < 32 {
			return r, "", api.ErrShort
		}
		r.Base = api.Key([]byte(s[:32]))
		s = s[32:]
	}
	n, s, e = paperCount(s)
	switch {
	case e != api.OK:
		return r, "", e
	case n > len(s):
		return r, "", api.ErrShort
	case n > 8192:
		return r, "", api.ErrLong
	}
	r.Body = s[:n]
	return r, s[n:], api.OK
}

// paperOpen is Open worked out another way.
func paperOpen(s string) (box.Record, api.Errno) {
	if len(s) < 4 {
		return box.Record{}, api.ErrShort
	}
	parts := s[:len(s)-4]
	if paperSum(parts) != s {
		return box.Record{}, api.ErrSum
	}
	r, rest, e := paperTake(parts)
	if e == api.OK && rest != "" {
		e = api.ErrTail
	}
	if e != api.OK {
		return box.Record{}, e
	}
	return r, api.OK
}

// paperSplit is Split worked out another way: what stands in a place is held against the bytes of the record that could stand there.
func paperSplit(s string) (items []box.Item, n int) {
	for {
		r, _, e := paperTake(s[n:])
		if e != api.OK {
			return items, n
		}
		record := paperSum(paperParts(r))
		if !strings.HasPrefix(s[n:], record) {
			return items, n
		}
		items = append(items, box.Item{At: n, Len: len(record), Record: r})
		n += len(record)
	}
}

// heldOpen holds Open against the other working-out.
func heldOpen(t *testing.T, s string) api.Errno {
	t.Helper()
	r, e := box.Open(s)
	want, wantE := paperOpen(s)
	if r != want || e != wantE {
		t.Fatalf("Open(%x) = %s, %d; want %s, %d", s, told(r), e, told(want), wantE)
	}
	return e
}

// heldSplit holds Split against the other working-out, and each of its records against Open.
func heldSplit(t *testing.T, s string) int {
	t.Helper()
	items, n := box.Split(s)
	want, wantN := paperSplit(s)
	if !slices.Equal(items, want) || n != wantN {
		t.Fatalf("Split(%x) = %d records, %d; want %d, %d", s, len(items), n, len(want), wantN)
	}
	for _, x := range items {
		if r, e := box.Open(s[x.At : x.At+x.Len]); r != x.Record || e != api.OK {
			t.Fatalf("Open of what Split tells = %s, %d; want %s", told(r), e, told(x.Record))
		}
	}
	return n
}

// drawKey draws a key: the zero one, one of few, or any.
func drawKey(r *rand.Rand) api.Key {
	switch r.IntN(4) {
	case 0:
		return api.Key{}
	case 1:
		return key(byte(r.IntN(3)))
	}
	var k api.Key
	for i := range k {
		k[i] = byte(r.IntN(256))
	}
	return k
}

// drawText draws bytes: none, few, some hundred, or about as many as a body may have.
func drawText(r *rand.Rand) string {
	n := []int{0, r.IntN(4), r.IntN(4), r.IntN(70), r.IntN(300), 8190 + r.IntN(5)}[r.IntN(6)]
	s := make([]byte, n)
	for i := range s {
		s[i] = byte(r.IntN(256))
	}
	return string(s)
}

// drawRecord draws a record, now and then one that may not be.
func drawRecord(r *rand.Rand) box.Record {
	x := box.Record{Key: drawKey(r), Patch: r.IntN(2) == 0, Body: drawText(r)}
	if x.Patch || r.IntN(8) == 0 {
		x.Base = drawKey(r)
	}
	return x
}

// drawBent answers bytes that are a little other ones.
func drawBent(r *rand.Rand, s string) string {
	at := r.IntN(len(s) + 1)
	if r.IntN(2) == 0 {
		// About a key, a Count or a length stands what makes most of a record.
		at = min(len(s), []int{0, 31, 32, 33, 34, 64, 65, 66, 67}[r.IntN(9)])
	}
	other := string([]byte{[]byte{0, 1, 63, 64, 65, 66, 127, 128, 192, byte(r.IntN(256))}[r.IntN(10)]})
	switch r.IntN(4) {
	case 0:
		return s[:at]
	case 1:
		return s[:at] + other + s[min(at+1, len(s)):]
	case 2:
		return s[:at] + other + s[at:]
	}
	return s[:at] + s[min(at+1, len(s)):]
}

// P17.1, P17.2: drawn records are packed as the other working-out says, and opened again.
func TestDrawnRecords(t *testing.T) {
	r := rand.New(rand.NewPCG(17, 1))
	count := map[api.Errno]int{}
	for range 4000 {
		x := drawRecord(r)
		s, e := box.Pack(x)
		want, wantE := paperPack(x)
		if s != want || e != wantE {
			t.Fatalf("Pack(%s) = %d bytes, %d; want %d bytes, %d", told(x), len(s), e, len(want), wantE)
		}
		count[e]++
		if e == api.OK {
			wantOpen(t, "packed", s, x)
			wantSplit(t, "packed", s, x)
		}
	}
	for _, e := range []api.Errno{api.OK, api.ErrArg, api.ErrLong} {
		if count[e] < 50 {
			t.Errorf("%d drawn records were answered %d: too few", count[e], e)
		}
	}
}

// P17.1: bodies of all lengths up to 300, and of those about each new group.
func TestBodiesOfAllLengths(t *testing.T) {
	for n := range 8200 {
		if n > 300 && n%64 > 1 && n%64 < 63 {
			continue
		}
		for _, x := range []box.Record{chunk(1, long(n)), patch(1, 2, long(n))} {
			s, e := box.Pack(x)
			want, wantE := paperPack(x)
			if s != want || e != wantE {
				t.Fatalf("Pack(%s) = %d bytes, %d; want %d bytes, %d", told(x), len(s), e, len(want), wantE)
			}
			if heldOpen(t, paperSum(paperParts(x))) != e {
				t.Fatalf("Open of a body of %d bytes isn't %d", n, e)
			}
		}
	}
}

// P17.2: drawn records that are bent, the sum put right behind that or not.
func TestDrawnBytes(t *testing.T) {
	r := rand.New(rand.NewPCG(17, 2))
	count := map[api.Errno]int{}
	for range 20000 {
		x := drawRecord(r)
		parts := paperParts(x)
		for range r.IntN(3) {
			parts = drawBent(r, parts)
		}
		s := paperSum(parts)
		if r.IntN(4) == 0 {
			s = drawBent(r, s)
		}
		e := heldOpen(t, s)
		count[e]++
		if again, f := box.Pack(mustOpen(s)); e == api.OK && (again != s || f != api.OK) {
			t.Fatalf("Open takes %x; Pack makes %x, %d of it", s, again, f)
		}
		heldSplit(t, s)
	}
	for _, e := range []api.Errno{api.OK, api.ErrShort, api.ErrForm, api.ErrSum, api.ErrTail, api.ErrLong} {
		if count[e] < 50 {
			t.Errorf("%d drawn texts were answered %d: too few", count[e], e)
		}
	}
}

// mustOpen answers the record, or the zero one.
func mustOpen(s string) box.Record {
	r, _ := box.Open(s)
	return r
}

// P17.2: behind the key, all texts of up to two bytes, and all of three whose first one is a Count.
func TestAllShortParts(t *testing.T) {
	k := text(key(1))
	for a := range 256 {
		heldOpen(t, paperSum(k+string([]byte{byte(a)})))
		for b := range 256 {
			heldOpen(t, paperSum(k+string([]byte{byte(a), byte(b)})))
			for _, head := range []string{"\x40", "\x41", "\x42", "\x41" + text(key(2))} {
				heldOpen(t, paperSum(k+head+string([]byte{byte(a), byte(b)})))
			}
		}
	}
}

// P17.3: drawn records in a row, with any bytes behind them, or bent.
func TestDrawnRows(t *testing.T) {
	r := rand.New(rand.NewPCG(17, 3))
	whole, cut := 0, 0
	for range 4000 {
		s := ""
		for range r.IntN(5) {
			x := drawRecord(r)
			if len(x.Body) > 1000 && r.IntN(4) > 0 {
				x.Body = x.Body[:20]
			}
			s += paperSum(paperParts(x))
		}
		switch r.IntN(4) {
		case 0:
			s += drawText(r)
		case 1:
			s = drawBent(r, s)
		}
		if heldSplit(t, s) == len(s) {
			whole++
		} else {
			cut++
		}
	}
	if min(whole, cut) < 500 {
		t.Errorf("%d drawn rows were whole, %d weren't: too few", whole, cut)
	}
}

// paper is a box worked out another way: what it does to a disk is done to one beside it, and what was added stands in a list.
type paper struct {
	d     *disk.Disk
	file  int
	size  int
	added []added
}

func (p *paper) add(r box.Record) (api.Place, api.Errno) {
	s, e := paperPack(r)
	if e != api.OK {
		return api.Place{}, e
	}
	at, _, _ := p.d.Size(p.file)
	if e := p.d.Add(p.file, s); e != api.OK {
		return api.Place{}, e
	}
	p.size += len(s)
	place := api.Place{File: p.file, At: at, Len: len(s)}
	p.added = append(p.added, added{place, r})
	return place, api.OK
}

// pair is a box and its other working-out, each with a disk of its own.
type pair struct {
	t    *testing.T
	said []string // what was done
	d    *disk.Disk
	b    *box.Box
	p    *paper
	read int // Reads that went well
}

func newPair(t *testing.T, hot, cold int, tier api.Tier, file int) *pair {
	t.Helper()
	d, _ := disk.New(hot, cold)
	beside, _ := disk.New(hot, cold)
	x := &pair{t: t, d: d, p: &paper{d: beside, file: file}}
	var e api.Errno
	x.b, e = box.Begin(d, tier, file)
	x.held("Begin", e, beside.Make(tier, file))
	return x
}

// held holds what was done, and all that can be told then, against the other working-out.
func (x *pair) held(what string, got, want api.Errno) {
	x.t.Helper()
	x.said = append(x.said, what)
	said := strings.Join(x.said, ", ")
	if got != want {
		x.t.Fatalf("%s = %d; want %d", said, got, want)
	}
	if x.b.File() != x.p.file || x.b.Size() != x.p.size {
		x.t.Fatalf("%s: File = %d, Size = %d; want %d, %d", said, x.b.File(), x.b.Size(), x.p.file, x.p.size)
	}
	if has, should := diskTold(x.d), diskTold(x.p.d); has != should {
		x.t.Fatalf("%s: the disk is %s; want %s", said, has, should)
	}
}

// heldRead holds a Read against the other opening of the other disk's bytes.
func (x *pair) heldRead(p api.Place) {
	x.t.Helper()
	r, e := box.Read(x.d, p)
	s, want := x.p.d.Read(p.File, p.At, p.Len)
	var record box.Record
	if want == api.OK {
		record, want = paperOpen(s)
	}
	if r != record || e != want {
		x.t.Fatalf("%s: Read(%v) = %s, %d; want %s, %d", strings.Join(x.said, ", "), p, told(r), e, told(record), want)
	}
	if e == api.OK {
		x.read++
	}
}

// add adds a record to both.
func (x *pair) add(r box.Record) {
	x.t.Helper()
	p, e := x.b.Add(r)
	want, wantE := x.p.add(r)
	x.held("Add "+told(r), e, wantE)
	if p != want {
		x.t.Fatalf("%s: the place is %v; want %v", strings.Join(x.said, ", "), p, want)
	}
	if e == api.OK {
		wantRead(x.t, strings.Join(x.said, ", "), x.d, p, r)
	}
}

// diskTold tells all of a disk that can be asked.
func diskTold(d *disk.Disk) string {
	told := fmt.Sprint(d.Down(), d.Steps(), d.Root(), d.Used(api.Hot), d.Used(api.Cold))
	for _, n := range d.Files() {
		size, tier, e := d.Size(n)
		s, _ := d.Read(n, 0, size)
		told += fmt.Sprintf(" %d: %d %d %x", n, tier, e, s)
	}
	return told
}

// drawPlace draws a place: one that was answered, one near it, or any.
func (x *pair) drawPlace(r *rand.Rand) api.Place {
	p := api.Place{File: r.IntN(5) - 1, At: r.IntN(300) - 10, Len: r.IntN(300) - 10}
	if n := len(x.p.added); n > 0 && r.IntN(5) > 0 {
		p = x.p.added[r.IntN(n)].place
		if r.IntN(3) == 0 {
			p.At += r.IntN(3) - 1
			p.Len += r.IntN(3) - 1
		}
	}
	return p
}

// step does one drawn thing to both.
func (x *pair) step(r *rand.Rand) {
	x.t.Helper()
	switch k := r.IntN(20); {
	case k < 8:
		record := drawRecord(r)
		if len(record.Body) > 1000 && r.IntN(4) > 0 {
			record.Body = record.Body[:r.IntN(100)]
		}
		x.add(record)
	case k < 11:
		x.held("Sync", x.b.Sync(), x.p.d.Sync(x.p.file))
	case k < 15:
		x.heldRead(x.drawPlace(r))
	case k < 16:
		n := r.IntN(6) - 1
		x.d.Arm(n)
		x.p.d.Arm(n)
		x.held(fmt.Sprintf("Arm(%d)", n), api.OK, api.OK)
	case k < 18:
		keeps := []api.Keep{{File: x.p.file, Bytes: r.IntN(200)}}[:r.IntN(2)]
		x.d.Back(keeps...)
		x.p.d.Back(keeps...)
		x.held(fmt.Sprintf("Back(%v)", keeps), api.OK, api.OK)
	case k < 19:
		n := r.IntN(4) + 1
		x.held(fmt.Sprintf("Add to %d", n), x.d.Add(n, "other bytes"), x.p.d.Add(n, "other bytes"))
	default:
		n := r.IntN(4) + 1
		if r.IntN(3) == 0 {
			x.held(fmt.Sprintf("Drop(%d)", n), x.d.Drop(n), x.p.d.Drop(n))
		} else {
			x.held(fmt.Sprintf("Make(%d)", n), x.d.Make(api.Hot, n), x.p.d.Make(api.Hot, n))
		}
	}
}

// P17.4, P17.5, P17.7: drawn calls in a row, on disks with much room and with little, whose power goes, and from which files go.
func TestDrawnCalls(t *testing.T) {
	read := 0
	for seed := range uint64(500) {
		r := rand.New(rand.NewPCG(17, seed))
		x := newPair(t, 3+r.IntN(60), 3+r.IntN(60), api.Tier(r.IntN(2)), 1+r.IntN(3))
		for range 60 {
			x.step(r)
		}
		read += x.read
	}
	if read < 1000 {
		t.Errorf("%d Reads went well: too few", read)
	}
}
