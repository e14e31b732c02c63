package manifest_test

import (
	"fmt"
	"slices"
	"testing"

	"silo/api"
	"silo/disk"
	"silo/manifest"
	"silo/wal"
)

// history is what a book, and then another one, were asked for up to a loss of power: the states that Load may tell.
type history struct {
	states []api.State // each one behind one record more
	sure   int         // the place of the one that was sure last; below 0: there is none
	first  map[int]int // the place of the one that a book's first record tells, by the book's file
}

func newHistory() *history { return &history{sure: -1, first: map[int]int{}} }

// begin begins a book, of the state that is sure last; its records are the disk's only behind Point.
func (h *history) begin(t *testing.T, d *disk.Disk, file int, s api.State) (*manifest.Book, api.Errno) {
	t.Helper()
	b, e := manifest.Begin(d, file, s)
	if e != api.OK {
		return nil, e
	}
	for _, call := range []func() api.Errno{b.Lay, b.Sync} {
		if e := call(); e != api.OK {
			return nil, e
		}
	}
	if e := b.Point(); e != api.OK {
		return nil, e
	}
	if h.sure < 0 {
		h.states, h.sure = []api.State{s}, 0
	}
	h.first[file] = len(h.states) - 1
	return b, api.OK
}

// change notes rows of edits, lays them, and makes them sure if it is told to.
func (h *history) change(t *testing.T, b *manifest.Book, sync bool, rows ...[]api.Edit) api.Errno {
	t.Helper()
	for _, edits := range rows {
		wantOK(t, "Note", b.Note(edits...))
		h.states = append(h.states, applied(t, h.states[len(h.states)-1], edits...))
	}
	if e := b.Lay(); e != api.OK {
		return e
	}
	if !sync {
		return api.OK
	}
	e := b.Sync()
	if e == api.OK {
		h.sure = len(h.states) - 1
	}
	return e
}

// run leads a manifest through its life, up to a loss of power, or to the end.
func run(t *testing.T, d *disk.Disk) *history {
	t.Helper()
	h := newHistory()
	if e := h.life(t, d); e != api.OK && e != api.ErrDown {
		t.Fatalf("the book answered %d", e)
	}
	return h
}

func (h *history) life(t *testing.T, d *disk.Disk) api.Errno {
	t.Helper()
	b, e := h.begin(t, d, 1, applied(t, api.State{}, setNext(3), addLog(2), addTable(11, 1, 1, "a", "c")))
	if e != api.OK {
		return e
	}
	for _, x := range []struct {
		sync bool
		rows [][]api.Edit
	}{
		{true, [][]api.Edit{{addStore(3, 1), setNext(4)}}},
		{false, [][]api.Edit{{addLog(4), dropLog(2)}}},
		{true, [][]api.Edit{{addTable(5, 1, 2, "d", long(40))}, {addTable(6, 0, 1, "", "z"), dropTable(11)}}},
		{false, [][]api.Edit{{}, {setNext(7)}, {dropStore(3)}}},
	} {
		if e := h.change(t, b, x.sync, x.rows...); e != api.OK {
			return e
		}
	}
	if e := h.change(t, b, true); e != api.OK {
		return e
	}
	wantOK(t, "Note of what is let go", b.Note(addLog(40)))
	b.Undo()
	next, e := h.begin(t, d, 7, b.State())
	if e != api.OK {
		return e
	}
	if e := d.Drop(b.File()); e != api.OK {
		return e
	}
	if e := h.change(t, next, false, []api.Edit{addLog(8), setNext(9)}, []api.Edit{dropTable(5)}); e != api.OK {
		return e
	}
	return h.change(t, next, true, []api.Edit{addTable(5, 1, 9, "a", "a")})
}

// wantOneOf wants Load to tell one of the history's states, from the one that was sure last on: the one whose records the file has. It answers how many bytes the root has.
func (h *history) wantOneOf(t *testing.T, name string, d *disk.Disk) int {
	t.Helper()
	got, e := manifest.Load(d)
	if h.sure < 0 {
		if e != api.ErrNone || !alike(got, api.State{}) {
			t.Fatalf("%s: Load = %+v, %d; want nothing", name, got, e)
		}
		return 0
	}
	if e != api.OK || !slices.ContainsFunc(h.states[h.sure:], func(s api.State) bool { return alike(s, got) }) {
		t.Fatalf("%s: Load = %+v, %d; want one of %+v", name, got, e, h.states[h.sure:])
	}
	records, _, _ := wal.Replay(d, d.Root())
	if want := h.states[h.first[d.Root()]+len(records)-1]; !alike(got, want) {
		t.Fatalf("%s: Load = %+v behind %d records; want %+v", name, got, len(records), want)
	}
	size, _, _ := d.Size(d.Root())
	return size
}

// P13.8: the power goes at each change, and behind the last one, and any number of bytes is kept.
func TestPower(t *testing.T) {
	d, _ := disk.New(99, 9)
	run(t, d)
	changes := d.Steps()
	if changes != 19 {
		t.Fatalf("%d changes", changes)
	}
	told := map[string]bool{}
	for n := range changes + 1 {
		for kept := -1; ; kept++ {
			d, _ := disk.New(99, 9)
			d.Arm(n)
			h := run(t, d)
			if d.Down() != (n < changes) {
				t.Fatalf("behind %d changes: down is %t", n, d.Down())
			}
			d.Back(api.Keep{File: 1, Bytes: kept}, api.Keep{File: 7, Bytes: kept})
			name := fmt.Sprintf("behind %d changes, %d bytes kept", n, kept)
			h.wantOneOf(t, name, d)
			s, _ := manifest.Load(d)
			told[fmt.Sprint(s)] = true
			d.Back()
			h.wantOneOf(t, name+", a second loss", d)
			if kept > 250 {
				break
			}
		}
	}
	// Of the eleven states of the history the two beside a note of no edits are alike; beside them there is the zero one.
	if len(told) != 11 {
		t.Errorf("%d states were met", len(told))
	}
}

// P13.8: without a Keep there is just what is sure, wherever the power goes.
func TestPowerKeepsNothing(t *testing.T) {
	for n := range 20 {
		d, _ := disk.New(99, 9)
		d.Arm(n)
		h := run(t, d)
		d.Back()
		if h.sure < 0 {
			wantNoLoad(t, fmt.Sprint(n, " changes"), d, api.ErrNone)
			continue
		}
		wantLoad(t, fmt.Sprint(n, " changes"), d, h.states[h.sure])
	}
}

// P13.8: behind a loss of power a new book goes on with the state that was loaded.
func TestNewBookBehindALoss(t *testing.T) {
	for n := range 20 {
		d, _ := disk.New(99, 9)
		d.Arm(n)
		run(t, d)
		d.Back(api.Keep{File: 1, Bytes: 30}, api.Keep{File: 7, Bytes: 30})
		s, e := manifest.Load(d)
		if e != api.OK && e != api.ErrNone {
			t.Fatalf("behind %d changes: Load = %d", n, e)
		}
		h := newHistory()
		b, e := h.begin(t, d, 60, s)
		wantOK(t, "Begin, Lay, Sync, Point", e)
		wantOK(t, "Note, Lay, Sync", h.change(t, b, true, []api.Edit{addLog(60)}))
		d.Back()
		wantLoad(t, fmt.Sprint(n, " changes, a new book"), d, applied(t, s, addLog(60)))
	}
}
