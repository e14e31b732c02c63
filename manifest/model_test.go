package manifest_test

import (
	"fmt"
	"math"
	"math/rand/v2"
	"slices"
	"strings"
	"testing"

	"silo/api"
	"silo/disk"
	"silo/manifest"
	"silo/wal"
)

// thing is what a file is in the other working-out: its edit, and when it came.
type thing struct {
	edit api.Edit
	came int
}

// paper is a state worked out another way: things by their files, put in order only where it is told.
type paper struct {
	things map[int]thing
	next   int
	came   int
}

func newPaper() *paper { return &paper{things: map[int]thing{}} }

// copied answers a state that is alike.
func (p *paper) copied() *paper {
	q := &paper{things: map[int]thing{}, next: p.next, came: p.came}
	for file, x := range p.things {
		q.things[file] = x
	}
	return q
}

// apply does all edits, or none and answers the first error.
func (p *paper) apply(edits ...api.Edit) api.Errno {
	q := p.copied()
	for _, x := range edits {
		if e := q.one(x); e != api.OK {
			return e
		}
	}
	*p = *q
	return api.OK
}

func (p *paper) one(x api.Edit) api.Errno {
	at, there := p.things[x.File]
	bad := x.File <= 0
	switch x.Kind {
	case 1:
		bad = bad || x.Level < 0 || x.Level > 5 || x.Count <= 0 || x.High < x.Low
	case 3:
		bad = bad || x.Level != 0 && x.Level != 1
	case 5:
	case 2, 4, 6:
		if !there || at.edit.Kind != x.Kind-1 {
			return api.ErrNone
		}
		delete(p.things, x.File)
		return api.OK
	case 7:
		if bad || x.File < p.next {
			return api.ErrArg
		}
		p.next = x.File
		return api.OK
	default:
		bad = true
	}
	switch {
	case bad:
		return api.ErrArg
	case there:
		return api.ErrThere
	case x.Kind == 1 && x.Level > 0 && p.overlaps(x):
		return api.ErrState
	}
	p.came++
	p.things[x.File] = thing{x, p.came}
	return api.OK
}

// overlaps tells whether any table of the level has a key that this one would have.
func (p *paper) overlaps(x api.Edit) bool {
	for _, at := range p.things {
		y := at.edit
		if y.Kind == 1 && y.Level == x.Level && max(x.Low, y.Low) <= min(x.High, y.High) {
			return true
		}
	}
	return false
}

// files answers the files of all things of the kind, rising.
func (p *paper) files(kind int) []int {
	var files []int
	for file, x := range p.things {
		if x.edit.Kind == kind {
			files = append(files, file)
		}
	}
	slices.Sort(files)
	return files
}

// told answers the state: of each list what stands first is sought again and again.
func (p *paper) told() api.State {
	s := api.State{Next: p.next}
	for level := range 6 {
		files := slices.DeleteFunc(p.files(1), func(file int) bool { return p.things[file].edit.Level != level })
		slices.Reverse(files)
		for len(files) > 0 {
			first := 0
			for i, file := range files {
				if level > 0 && p.things[file].edit.Low < p.things[files[first]].edit.Low {
					first = i
				}
			}
			x := p.things[files[first]].edit
			s.Tables = append(s.Tables, api.Table{File: x.File, Level: x.Level, Count: x.Count, Low: x.Low, High: x.High})
			files = slices.Delete(files, first, first+1)
		}
	}
	for _, file := range p.files(3) {
		s.Stores = append(s.Stores, api.Store{File: file, Tier: p.things[file].edit.Level})
	}
	logs := p.files(5)
	for when := range p.came {
		for _, file := range logs {
			if p.things[file].came == when+1 {
				s.Logs = append(s.Logs, file)
			}
		}
	}
	return s
}

// paperNumber is a number's bytes worked out another way: its groups from the lowest one up.
func paperNumber(n int) string {
	mark, u := byte(64), uint64(n)
	if n < 0 {
		mark, u = 128, ^u
	}
	s := string([]byte{mark + byte(u%64)})
	for u /= 64; u > 0; u /= 64 {
		s = string([]byte{byte(u % 64)}) + s
	}
	return s
}

// paperPack is the bytes of edits worked out another way.
func paperPack(edits []api.Edit) string {
	s := paperNumber(len(edits))
	for _, x := range edits {
		s += paperNumber(x.Kind) + paperNumber(x.File)
		if x.Kind == 1 || x.Kind == 3 {
			s += paperNumber(x.Level)
		}
		if x.Kind == 1 {
			s += paperNumber(x.Count) + paperNumber(len(x.Low)) + x.Low + paperNumber(len(x.High)) + x.High
		}
	}
	return s
}

// eater goes over bytes; once it has an error, it stays there.
type eater struct {
	s string
	e api.Errno
}

// number goes over a number, its bytes first, then what they tell.
func (r *eater) number() int {
	if r.e != api.OK {
		return 0
	}
	size := 0
	for size < len(r.s) && r.s[size] < 64 && size < 11 {
		size++
	}
	groups := r.s[:size]
	value := uint64(0)
	for i := range groups {
		if i == 0 && groups[i] == 0 || value >= 1<<57 {
			r.e = api.ErrForm
			return 0
		}
		value = value*64 + uint64(groups[i])
	}
	switch {
	case size == len(r.s):
		r.e = api.ErrShort
		return 0
	case r.s[size] > 191 || value >= 1<<57:
		r.e = api.ErrForm
		return 0
	}
	n := int(value*64 + uint64(r.s[size]%64))
	if r.s[size] >= 128 {
		n = ^n
	}
	r.s = r.s[size+1:]
	return n
}

// count goes over a number from 0 on.
func (r *eater) count() int {
	n := r.number()
	if r.e == api.OK && n < 0 {
		r.e = api.ErrForm
	}
	return n
}

// text goes over a text.
func (r *eater) text() string {
	n := r.count()
	if r.e == api.OK && n > len(r.s) {
		r.e = api.ErrShort
	}
	if r.e != api.OK {
		return ""
	}
	s := r.s[:n]
	r.s = r.s[n:]
	return s
}

// paperUnpack is the edits of bytes worked out another way.
func paperUnpack(s string) ([]api.Edit, api.Errno) {
	r := &eater{s: s}
	n := r.count()
	var edits []api.Edit
	for i := 0; i < n && r.e == api.OK; i++ {
		x := api.Edit{Kind: r.number(), File: r.number()}
		if x.Kind == 1 || x.Kind == 3 {
			x.Level = r.number()
		}
		if x.Kind == 1 {
			x.Count, x.Low, x.High = r.number(), r.text(), r.text()
		}
		edits = append(edits, x)
	}
	switch {
	case r.e != api.OK:
		return nil, r.e
	case r.s != "":
		return nil, api.ErrTail
	}
	return edits, api.OK
}

// keys are what tables begin and end with in drawn edits: few, so that they meet often.
var keys = []string{"", "a", "a\x00", "ab", "b", "c", "ca", "d", "e", "f", "\xff"}

// drawEdit draws an edit: mostly one that may be done, of files up to most.
func drawEdit(r *rand.Rand, most int) api.Edit {
	x := api.Edit{Kind: 1 + r.IntN(7), File: 1 + r.IntN(most), Level: r.IntN(4), Count: 1 + r.IntN(3)}
	i, j := r.IntN(len(keys)), r.IntN(len(keys))
	x.Low, x.High = keys[min(i, j)], keys[max(i, j)]
	if r.IntN(2) == 0 {
		x.Kind, x.High = 1, x.Low
	}
	if x.Kind == api.AddStore {
		x.Level = r.IntN(2)
	}
	switch r.IntN(40) {
	case 0:
		x.Kind = r.IntN(12) - 2
	case 1:
		x.File = -r.IntN(3)
	case 2:
		x.Level = r.IntN(10) - 2
	case 3:
		x.Count = -r.IntN(2)
	case 4:
		x.Low, x.High = x.High, x.Low
	case 5:
		x.Kind, x.File = 7, r.IntN(4)
	}
	return x
}

// drawEdits draws some edits: one, none, or several.
func drawEdits(r *rand.Rand, most int) []api.Edit {
	edits := make([]api.Edit, max(0, []int{1, 1, 1, r.IntN(4), r.IntN(9)}[r.IntN(5)]))
	for i := range edits {
		edits[i] = drawEdit(r, most)
	}
	return edits
}

// wantPaper wants a state to be what the other working-out tells, and Whole and Files to fit it.
func wantPaper(t *testing.T, name string, s api.State, p *paper) {
	t.Helper()
	want := p.told()
	if !alike(s, want) {
		t.Fatalf("%s: %+v; want %+v", name, s, want)
	}
	files := slices.Concat(p.files(1), p.files(3), p.files(5))
	slices.Sort(files)
	if got := manifest.Files(s); !slices.Equal(got, files) {
		t.Fatalf("%s: Files = %v; want %v", name, got, files)
	}
	edits := manifest.Whole(s)
	if again, e := manifest.Apply(api.State{}, edits...); e != api.OK || !alike(again, s) {
		t.Fatalf("%s: Apply of Whole = %+v, %d; want %+v", name, again, e, s)
	}
	unpacked, e := manifest.Unpack(manifest.Pack(edits))
	if e != api.OK || !slices.Equal(unpacked, edits) {
		t.Fatalf("%s: Whole packed and unpacked = %+v, %d; want %+v", name, unpacked, e, edits)
	}
}

// P13.1, P13.2: drawn edits in rows, one Apply behind the other, each held against the other working-out.
func TestDrawnEdits(t *testing.T) {
	done, refused := 0, map[api.Errno]int{}
	for seed := range uint64(600) {
		r := rand.New(rand.NewPCG(13, seed))
		most := []int{8, 20, 100}[r.IntN(3)]
		s, p := api.State{}, newPaper()
		for range 80 {
			edits := drawEdits(r, most)
			before := fmt.Sprint(s)
			want := p.apply(edits...)
			got, e := manifest.Apply(s, edits...)
			if e != want || fmt.Sprint(s) != before {
				t.Fatalf("Apply(%s, %+v) = %d; want %d; the state is %+v", before, edits, e, want, s)
			}
			if e != api.OK {
				if !alike(got, api.State{}) {
					t.Fatalf("Apply(%s, %+v) = %+v, %d", before, edits, got, e)
				}
				refused[e]++
				continue
			}
			s = got
			wantPaper(t, fmt.Sprintf("Apply(%s, %+v)", before, edits), s, p)
			done++
		}
	}
	for _, e := range []api.Errno{api.ErrArg, api.ErrThere, api.ErrState, api.ErrNone} {
		if refused[e] < 200 {
			t.Errorf("the error %d was met %d times: too few", e, refused[e])
		}
	}
	if done < 5000 {
		t.Errorf("%d rows of edits were done: too few", done)
	}
}

// P13.1: drawn edits at once are what they are one by one.
func TestDrawnEditsAtOnce(t *testing.T) {
	for seed := range uint64(500) {
		r := rand.New(rand.NewPCG(131, seed))
		p := newPaper()
		var edits []api.Edit
		for range 150 {
			x := drawEdit(r, 60)
			if p.apply(x) == api.OK {
				edits = append(edits, x)
			} else if r.IntN(100) == 0 {
				want := p.apply(x)
				wantRefused(t, "with an error", api.State{}, want, append(slices.Clone(edits), x, drawEdit(r, 60))...)
			}
		}
		wantPaper(t, "at once", applied(t, api.State{}, edits...), p)
		cut := r.IntN(len(edits) + 1)
		wantPaper(t, "at twice", applied(t, applied(t, api.State{}, edits[:cut]...), edits[cut:]...), p)
	}
}

// P13.1: all tables of two keys out of five, behind each pair of such tables: which of them may be there together.
func TestAllTablesOfFewKeys(t *testing.T) {
	var all []api.Edit
	for low := range 5 {
		for high := low; high < 5; high++ {
			all = append(all, addTable(1, 1, 1, keys[low], keys[high]))
		}
	}
	for _, a := range all {
		for _, b := range all {
			for _, c := range all {
				a.File, b.File, c.File = 3, 1, 2
				for _, level := range []int{0, 1, 5} {
					a.Level, b.Level, c.Level = level, level, level
					p := newPaper()
					want := p.apply(a, b, c)
					got, e := manifest.Apply(api.State{}, a, b, c)
					if e != want || e == api.OK && !alike(got, p.told()) {
						t.Fatalf("Apply(%+v, %+v, %+v) = %+v, %d; want %+v, %d", a, b, c, got, e, p.told(), want)
					}
				}
			}
		}
	}
}

// drawNumber draws any number, mostly a small one.
func drawNumber(r *rand.Rand) int {
	n := int(r.Uint64() >> r.IntN(64))
	return []int{r.IntN(4), r.IntN(200) - 100, n, -1 - n, math.MinInt, math.MaxInt}[r.IntN(6)]
}

// drawText draws any text, mostly a short one.
func drawText(r *rand.Rand) string {
	s := make([]byte, []int{0, r.IntN(4), 60 + r.IntN(8), r.IntN(200)}[r.IntN(4)])
	for i := range s {
		s[i] = byte(r.IntN(256))
	}
	return string(s)
}

// drawAny draws an edit of any numbers and texts.
func drawAny(r *rand.Rand) api.Edit {
	x := api.Edit{Kind: r.IntN(9), File: drawNumber(r), Level: drawNumber(r), Count: drawNumber(r), Low: drawText(r), High: drawText(r)}
	if r.IntN(8) == 0 {
		x.Kind = drawNumber(r)
	}
	return x
}

// P13.3: edits of any numbers and texts, packed as the other working-out does it, and unpacked again.
func TestPackOfAnyEdits(t *testing.T) {
	r := rand.New(rand.NewPCG(13, 3))
	for range 5000 {
		edits := make([]api.Edit, r.IntN(5))
		for i := range edits {
			edits[i] = drawAny(r)
		}
		s := manifest.Pack(edits)
		if want := paperPack(edits); s != want {
			t.Fatalf("Pack(%+v) = %x; want %x", edits, s, want)
		}
		got, e := manifest.Unpack(s)
		for i := range edits {
			edits[i] = ofUse(edits[i])
		}
		if e != api.OK || !slices.Equal(got, edits) {
			t.Fatalf("Unpack(%x) = %+v, %d; want %+v", s, got, e, edits)
		}
	}
}

// ofUse answers an edit without what its kind has no use for.
func ofUse(x api.Edit) api.Edit {
	switch x.Kind {
	case 1:
		return x
	case 3:
		return api.Edit{Kind: 3, File: x.File, Level: x.Level}
	}
	return api.Edit{Kind: x.Kind, File: x.File}
}

// wantUnpack wants Unpack to answer what the other working-out does, and of bytes that are edits no others to make the same.
func wantUnpack(t *testing.T, s string) api.Errno {
	t.Helper()
	want, wantErr := paperUnpack(s)
	got, e := manifest.Unpack(s)
	if e != wantErr || !slices.Equal(got, want) {
		t.Fatalf("Unpack(%x) = %+v, %d; want %+v, %d", s, got, e, want, wantErr)
	}
	if e == api.OK && manifest.Pack(got) != s {
		t.Fatalf("Unpack(%x) = %+v, whose Pack is %x", s, got, manifest.Pack(got))
	}
	return e
}

// P13.3: all texts of up to two bytes, and of three that tell of an edit.
func TestUnpackOfAllShortTexts(t *testing.T) {
	wantUnpack(t, "")
	for a := range 256 {
		wantUnpack(t, string([]byte{byte(a)}))
		for b := range 256 {
			wantUnpack(t, string([]byte{byte(a), byte(b)}))
			wantUnpack(t, string([]byte{0x41, byte(a), byte(b)}))
			wantUnpack(t, string([]byte{0x41, 0x41, 0x41, 0x40, 0x41, byte(a), byte(b)}))
		}
	}
}

// P13.3: any bytes: drawn ones, and Packs with bytes that are other ones, left out, put in, cut off, or added.
func TestUnpackOfAnyBytes(t *testing.T) {
	r := rand.New(rand.NewPCG(13, 4))
	met := map[api.Errno]int{}
	for range 60000 {
		edits := make([]api.Edit, r.IntN(4))
		for i := range edits {
			edits[i] = drawAny(r)
			edits[i].Low, edits[i].High = drawText(r)[:0], "h"
		}
		s := paperPack(edits)
		at := r.IntN(len(s) + 1)
		other := string([]byte{[]byte{byte(r.IntN(256)), byte(64 + r.IntN(9)), byte(128 + r.IntN(64)), 0}[r.IntN(4)]})
		switch r.IntN(7) {
		case 0:
			s = drawText(r)
		case 1:
			s = s[:at] + other + s[min(at+1, len(s)):]
		case 2:
			s = s[:at] + other + s[at:]
		case 3:
			s = s[:at] + s[min(at+1, len(s)):]
		case 4:
			s = s[:at]
		case 5:
			s += other
		}
		met[wantUnpack(t, s)]++
	}
	for _, e := range []api.Errno{api.OK, api.ErrShort, api.ErrForm, api.ErrTail} {
		if met[e] < 1000 {
			t.Errorf("%d was met %d times: too few", e, met[e])
		}
	}
}

// paperBook is a book worked out another way: rows of edits, each told as waiting, written or sure, and the disk beside.
type paperBook struct {
	d                      *disk.Disk
	file                   int
	begin                  api.State
	waiting, written, sure [][]api.Edit // written: also what is sure
}

// state answers the state behind the rows of edits that were noted, from the book's beginning on.
func (p *paperBook) state(rows ...[][]api.Edit) *paper {
	s := newPaper()
	s.apply(manifest.Whole(p.begin)...)
	for _, edits := range slices.Concat(rows...) {
		s.apply(edits...)
	}
	return s
}

func (p *paperBook) note(edits []api.Edit) api.Errno {
	if e := p.state(p.written, p.waiting).apply(edits...); e != api.OK {
		return e
	}
	p.waiting = append(p.waiting, edits)
	return api.OK
}

// lay writes the frames of what waits; first: the first record waits among it.
func (p *paperBook) lay(first *bool) api.Errno {
	frames := ""
	if *first {
		frames = wal.Frame(paperPack(manifest.Whole(p.begin)))
	}
	for _, edits := range p.waiting {
		frames += wal.Frame(paperPack(edits))
	}
	if frames == "" {
		return api.OK
	}
	if e := p.d.Add(p.file, frames); e != api.OK {
		return e
	}
	p.written = slices.Concat(p.written, p.waiting)
	p.waiting, *first = nil, false
	return api.OK
}

func (p *paperBook) sync(first bool) api.Errno {
	if first || len(p.waiting) > 0 {
		return api.ErrState
	}
	e := p.d.Sync(p.file)
	if e == api.OK {
		p.sure = slices.Clone(p.written)
	}
	return e
}

// paperLoad is a loading worked out another way.
func paperLoad(d *disk.Disk) (api.State, api.Errno) {
	if d.Down() {
		return api.State{}, api.ErrDown
	}
	if d.Root() == 0 {
		return api.State{}, api.ErrNone
	}
	size, _, _ := d.Size(d.Root())
	s, _ := d.Read(d.Root(), 0, size)
	records, _ := wal.Split(s)
	state := newPaper()
	good := len(records) > 0
	for _, record := range records {
		edits, e := paperUnpack(record)
		good = good && e == api.OK && state.apply(edits...) == api.OK
	}
	if !good {
		return api.State{}, api.ErrCorrupt
	}
	return state.told(), api.OK
}

// pair is a book and its other working-out, each with a disk of its own.
type pair struct {
	t     *testing.T
	said  []string // what was done
	d     *disk.Disk
	b     *manifest.Book
	p     *paperBook
	first bool // the first record waits
}

// newPair begins a book of a drawn state.
func newPair(t *testing.T, r *rand.Rand) *pair {
	t.Helper()
	hot := 8 + r.IntN(30)
	d, _ := disk.New(hot, 9)
	beside, _ := disk.New(hot, 9)
	begin := newPaper()
	for range r.IntN(12) {
		begin.apply(drawEdit(r, 15))
	}
	x := &pair{t: t, d: d, p: &paperBook{d: beside, file: 1, begin: begin.told()}, first: true}
	var e api.Errno
	x.b, e = manifest.Begin(d, 1, x.p.begin)
	x.held("Begin", e, beside.Make(api.Hot, 1))
	return x
}

// held holds what was done, and all that can be told then, against the other working-out.
func (x *pair) held(what string, got, want api.Errno) {
	x.t.Helper()
	x.said = append(x.said, what)
	name := strings.Join(x.said, ", ")
	if got != want {
		x.t.Fatalf("%s = %d; want %d", name, got, want)
	}
	if s, want := x.b.State(), x.p.state(x.p.sure).told(); !alike(s, want) {
		x.t.Fatalf("%s: State = %+v; want %+v", name, s, want)
	}
	if has, should := diskTold(x.d), diskTold(x.p.d); has != should {
		x.t.Fatalf("%s: the disk is %s; want %s", name, has, should)
	}
	loaded, e := manifest.Load(x.d)
	should, wantErr := paperLoad(x.p.d)
	if e != wantErr || !alike(loaded, should) {
		x.t.Fatalf("%s: Load = %+v, %d; want %+v, %d", name, loaded, e, should, wantErr)
	}
}

// diskTold tells all of a disk that can be asked.
func diskTold(d *disk.Disk) string {
	told := fmt.Sprint(d.Down(), d.Steps(), d.Root(), d.Used(api.Hot), d.Used(api.Cold))
	for _, n := range d.Files() {
		size, tier, e := d.Size(n)
		s, _ := d.Read(n, 0, size)
		told += fmt.Sprintf(" %d: %d %d %x", n, tier, e, s)
	}
	return told
}

// step does one drawn thing to both.
func (x *pair) step(r *rand.Rand) {
	x.t.Helper()
	switch k := r.IntN(24); {
	case k < 8:
		edits := drawEdits(r, 15)
		x.held(fmt.Sprintf("Note(%+v)", edits), x.b.Note(edits...), x.p.note(edits))
	case k < 12:
		x.held("Lay", x.b.Lay(), x.p.lay(&x.first))
	case k < 16:
		x.held("Sync", x.b.Sync(), x.p.sync(x.first))
	case k < 18:
		x.b.Undo()
		x.p.waiting, x.first = nil, false
		x.held("Undo", api.OK, api.OK)
	case k < 20:
		x.held("Point", x.b.Point(), x.p.d.Point(1))
	case k < 21:
		n := r.IntN(6) - 1
		x.d.Arm(n)
		x.p.d.Arm(n)
		x.held(fmt.Sprintf("Arm(%d)", n), api.OK, api.OK)
	case k < 22:
		keeps := []api.Keep{{File: 1, Bytes: r.IntN(200)}}[:r.IntN(2)]
		x.d.Back(keeps...)
		x.p.d.Back(keeps...)
		x.held(fmt.Sprintf("Back(%v)", keeps), api.OK, api.OK)
	default:
		n := 2 + r.IntN(5)
		if r.IntN(3) == 0 {
			x.held(fmt.Sprintf("Drop(%d)", n), x.d.Drop(n), x.p.d.Drop(n))
		} else {
			x.held(fmt.Sprintf("Make(%d)", n), x.d.Make(api.Hot, n), x.p.d.Make(api.Hot, n))
		}
	}
}

// P13.4 to P13.6: drawn calls in a row, on disks with much room and with little, whose power goes.
func TestDrawnCalls(t *testing.T) {
	for seed := range uint64(500) {
		r := rand.New(rand.NewPCG(1313, seed))
		x := newPair(t, r)
		for range 60 {
			x.step(r)
		}
	}
}
