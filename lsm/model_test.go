package lsm_test

import (
	"fmt"
	"maps"
	"slices"
	"testing"

	"silo/api"
	"silo/block"
	"silo/disk"
	"silo/levels"
	"silo/lsm"
	"silo/manifest"
	"silo/sched"
)

// trial is an index whose tasks go on side by side, and beside it a plain list of what was put.
type trial struct {
	t      *testing.T
	d      *disk.Disk
	x      *lsm.Index
	conf   api.Conf
	s      side
	want   plain
	seed   int
	stores map[int]bool // those that are noted
	kinds  map[string]map[api.Errno]int
	steps  map[int]int // of the task in a slot
	most   map[int]int // how many it may do
	under  map[string]int
}

func newTrial(t *testing.T, hot, seed int, c api.Conf) *trial {
	t.Helper()
	d := newDisk(t, hot, 50)
	return &trial{
		t: t, d: d, x: opened(t, d, c), conf: c, s: newSide(t), want: plain{}, seed: seed,
		stores: map[int]bool{}, kinds: map[string]map[api.Errno]int{}, steps: map[int]int{}, most: map[int]int{}, under: map[string]int{},
	}
}

func (r *trial) random(n int) int {
	r.seed = (r.seed*1103515245 + 12345) & 0x7fffffff
	return r.seed >> 8 % n
}

// list answers entries that may be put, mostly.
func (r *trial) list() []api.Entry {
	p := plain{}
	for range r.random(5) {
		y := entry(fmt.Sprintf("k%02d", r.random(40)), fmt.Sprint(r.random(1000))+text(r.random(40)))
		if r.random(4) == 0 {
			y = gone(y.Key)
		}
		p.put(y)
	}
	list := p.live("")
	for _, y := range p {
		if y.Gone {
			list = append(list, y) // it stands behind lesser ones at times
		}
	}
	return list
}

// bound answers how many steps a task may do that begins now, and begins another opening of the book of its steps.
func (r *trial) bound() int {
	n := len(r.d.Files())
	for _, a := range r.x.State().Tables {
		n += a.Count
	}
	return 1000 + 100*(n+r.x.Waiting())
}

// begin begins a task of some kind in a slot.
func (r *trial) begin(slot int) {
	r.t.Helper()
	kinds := []string{"Put", "Put", "Put", "Change", "Flush", "Compact", "Sweep", "Note"}
	kind := kinds[r.random(len(kinds))]
	end := func(e api.Errno, wants ...api.Errno) sched.Next {
		r.t.Helper()
		if r.kinds[kind] == nil {
			r.kinds[kind] = map[api.Errno]int{}
		}
		r.kinds[kind][e]++
		for _, want := range wants {
			if e == want {
				return sched.Next{}
			}
		}
		r.t.Fatalf("%s = %d; want one of %v", kind, e, wants)
		return sched.Next{}
	}
	var task sched.Next
	switch kind {
	case "Put":
		list := r.list()
		task = r.x.Put(list, func(e api.Errno) sched.Next { return r.put(list, e, end) })
	case "Change":
		var list []api.Entry
		task = r.x.Change(func(v *lsm.View) []api.Entry {
			r.want.want(r.t, "what a Change is handed", v)
			list = r.list()
			return list
		}, func(e api.Errno) sched.Next { return r.put(list, e, end) })
	case "Flush", "Compact":
		task = r.tableTask(kind, end)
	case "Sweep":
		task = r.x.Sweep(func(e api.Errno) sched.Next { return end(e, api.OK) })
	case "Note":
		task = r.note(end)
	}
	r.steps[slot], r.most[slot] = 0, r.bound()
	wantOK(r.t, "sched's Put", r.s.Put(slot, task))
}

type ender func(e api.Errno, wants ...api.Errno) sched.Next

// put ends a Put or a Change: its entries are put, if they may be and there was room.
func (r *trial) put(list []api.Entry, e api.Errno, end ender) sched.Next {
	if want := block.Check(list); want != api.OK {
		return end(e, want)
	}
	if e == api.OK {
		r.want.put(list...)
	}
	if len(list) == 0 {
		return end(e, api.OK)
	}
	return end(e, api.OK, api.ErrFull)
}

// tableTask answers a Flush or a Compact, whose end hangs on what is under way when it begins.
func (r *trial) tableTask(kind string, end ender) sched.Next {
	call, nothing := r.x.Flush, api.OK
	if kind == "Compact" {
		call, nothing = r.x.Compact, api.ErrNone
	}
	began := false
	var wants []api.Errno
	task := call(func(e api.Errno) sched.Next {
		if began && wants == nil {
			r.under[kind]--
			return end(e, api.OK, api.ErrFull)
		}
		return end(e, wants...)
	})
	first := task.Do
	task.Do = func(slot int) sched.Next {
		began = true
		_, due := levels.Pick(r.x.State().Tables, r.conf.Fan)
		switch {
		case r.under[kind] > 0:
			wants = []api.Errno{api.ErrState}
		case kind == "Flush" && r.x.Waiting() == 0, kind == "Compact" && !due:
			wants = []api.Errno{nothing}
		default:
			r.under[kind]++
		}
		return first(slot)
	}
	return task
}

// note answers a Note of a store that comes or goes.
func (r *trial) note(end ender) sched.Next {
	var edits []api.Edit
	var state api.State
	file := r.x.Number()
	return r.x.Note(func(v *lsm.View) []api.Edit {
		r.want.want(r.t, "what a Note is handed", v)
		state, edits = r.x.State(), nil
		for range r.random(3) {
			edits = append(edits, addStore(file, api.Tier(r.random(2))))
		}
		for _, y := range state.Stores {
			if r.random(3) == 0 {
				edits = append(edits, dropStore(y.File))
			}
		}
		if r.random(9) == 0 {
			edits = append(edits, dropStore(file))
		}
		return edits
	}, func(e api.Errno) sched.Next {
		if _, want := manifest.Apply(state, edits...); want != api.OK {
			return end(e, want)
		}
		if e == api.OK {
			for _, y := range edits {
				if y.Kind == api.AddStore {
					r.stores[y.File] = true
				} else {
					delete(r.stores, y.File)
				}
			}
		}
		if len(edits) == 0 {
			return end(e, api.OK)
		}
		return end(e, api.OK, api.ErrFull)
	})
}

// wantState wants the state to be one of an index, with the stores that were noted.
func (r *trial) wantState() {
	r.t.Helper()
	s := r.x.State()
	if _, e := manifest.Apply(api.State{}, manifest.Whole(s)...); e != api.OK {
		r.t.Fatalf("State = %+v can't be made: %d", s, e)
	}
	stores := map[int]bool{}
	for _, y := range s.Stores {
		stores[y.File] = true
	}
	if !maps.Equal(stores, r.stores) {
		r.t.Fatalf("the stores are %v; want %v", s.Stores, r.stores)
	}
}

// wantFiles wants the disk to have just the files of the state and its root; the stores have none.
func (r *trial) wantFiles(name string) {
	r.t.Helper()
	s := r.x.State()
	s.Stores = nil
	want := append(manifest.Files(s), r.d.Root())
	slices.Sort(want)
	if got := r.d.Files(); !slices.Equal(got, want) {
		r.t.Fatalf("%s: the disk has the files %v; want %v", name, got, want)
	}
}

// run lets tasks go on side by side, picked in one of several ways, and holds the index against the list.
func (r *trial) run(picks, slots, way int) {
	r.t.Helper()
	for i := range picks {
		for slot := range slots {
			if !r.s.Alive(slot) && r.random(4) == 0 {
				r.begin(slot)
			}
		}
		changes := r.d.Steps()
		slot, ok := r.s.Pick([]int{i, 0, -1, r.random(1000), i / 7, -r.random(1000)}[way])
		if !ok {
			continue
		}
		r.steps[slot]++
		if r.steps[slot] > r.most[slot] {
			r.t.Fatalf("a task has done %d steps", r.steps[slot])
		}
		if n := r.d.Steps() - changes; n > 1 {
			r.t.Fatalf("a step has changed the disk %d times", n)
		}
		// What was put is there in the step in which it is answered.
		if i%9 == 0 {
			r.want.want(r.t, fmt.Sprint("pick ", i), r.x.View())
		}
		for _, key := range []string{"k03", "k17"} {
			want, there := r.want[key]
			wantGet(r.t, fmt.Sprint("pick ", i), r.x.View(), key, want, there)
		}
	}
	for {
		if _, ok := r.s.Pick(0); !ok {
			break
		}
	}
	r.want.want(r.t, "in the end", r.x.View())
	r.wantState()
}

// P15.11: whatever tasks go on side by side, in whatever order, under whatever conf, on disks with much room and with little: the index is a plain list of what was put.
func TestModel(t *testing.T) {
	kinds := map[string]map[api.Errno]int{}
	for way := range 6 {
		for seed := range 24 {
			c := api.Conf{Fan: 2 + seed%4, Each: 1 + seed%5*3, Per: 1 + seed*3%32, Table: 1 + seed*seed%11}
			hot := []int{1 << 12, 150, 70, 40}[seed%4]
			r := newTrial(t, hot, 1000*way+seed, c)
			for round := range 4 {
				r.run(150, 1+(seed+round)%6, way)
				if round%2 == 1 {
					wantOK(t, "Sweep", lsm.Do(r.x.Sweep))
					r.wantFiles("swept")
				}
				if round == 2 {
					r.d.Back()
				}
				if round > 0 {
					r.conf.Fan = 2 + (c.Fan+round)%15
					r.x = opened(t, r.d, r.conf)
					r.want.want(t, "opened anew", r.x.View())
					r.wantState()
				}
			}
			for kind, ends := range r.kinds {
				if kinds[kind] == nil {
					kinds[kind] = map[api.Errno]int{}
				}
				for e, n := range ends {
					kinds[kind][e] += n
				}
			}
		}
	}
	for kind, ends := range map[string][]api.Errno{
		"Put":     {api.OK, api.ErrArg, api.ErrFull},
		"Change":  {api.OK, api.ErrArg, api.ErrFull},
		"Flush":   {api.OK, api.ErrState, api.ErrFull},
		"Compact": {api.OK, api.ErrState, api.ErrNone, api.ErrFull},
		"Sweep":   {api.OK},
		"Note":    {api.OK, api.ErrThere, api.ErrNone, api.ErrFull},
	} {
		for _, e := range ends {
			if kinds[kind][e] < 5 {
				t.Errorf("%s ended %d times with %d: %v", kind, kinds[kind][e], e, kinds[kind])
			}
		}
	}
}

// P15.11: the same Puts have the same view, whatever the conf, and however often and when tables are written, merged and swept.
func TestUnseen(t *testing.T) {
	for _, c := range append(confs, api.Conf{Fan: 16, Each: 3, Per: 10, Table: 5}) {
		for _, often := range []int{1, 2, 5, 1000} {
			d := newDisk(t, 1<<13, 0)
			x := opened(t, d, c)
			want := plain{}
			for i := range 120 {
				list := []api.Entry{entry(fmt.Sprintf("a%02d", i*7%31), fmt.Sprint(i)), gone(fmt.Sprintf("b%02d", i*5%23)), entry(fmt.Sprintf("c%02d", i*3%17), "")}
				wantOK(t, "Put", put(x, list...))
				want.put(list...)
				if i%often == 0 {
					wantOK(t, "Flush", lsm.Do(x.Flush))
				}
				if i%(often+1) == 0 {
					lsm.Do(x.Compact)
				}
				if i%(often+2) == 0 {
					wantOK(t, "Sweep", lsm.Do(x.Sweep))
				}
				if i%10 == 0 {
					want.want(t, fmt.Sprint("conf ", c, ", each ", often), x.View())
				}
			}
			want.want(t, fmt.Sprint("conf ", c, ", each ", often), x.View())
		}
	}
}

// P15.13: how many steps each task does, alone and beside others; while it waits it does none.
func TestSteps(t *testing.T) {
	c := api.Conf{Fan: 2, Each: 1, Per: 1, Table: 1}
	d := newDisk(t, 1<<14, 0)
	x := opened(t, d, c)
	var list []api.Entry
	for i := range 300 {
		list = append(list, entry(fmt.Sprintf("k%03d", i), "v"))
	}
	steps := func(kind string, task func(lsm.Then) sched.Next) {
		t.Helper()
		n := len(d.Files()) + x.Waiting()
		for _, a := range x.State().Tables {
			n += a.Count
		}
		s := newSide(t)
		j := s.begin(0, task)
		s.finish()
		wantOK(t, kind, j.how)
		if most := 1000 + 100*n; s.Steps() > most {
			t.Fatalf("%s has done %d steps; it may do %d", kind, s.Steps(), most)
		}
	}
	for range 2 {
		steps("Put", putting(x, list...))
		steps("Put of none", putting(x))
		steps("Flush", x.Flush)
	}
	steps("Compact", x.Compact)
	steps("Sweep", x.Sweep)
	steps("Note", allTasks(x)["Note"])
	steps("Change", allTasks(x)["Change"])

	// One that waits isn't ready, and so does no steps.
	s := newSide(t)
	var jobs []*job
	for i := range 8 {
		jobs = append(jobs, s.begin(i, putting(x, entry(fmt.Sprint("w", i), ""))))
	}
	total := 0
	for n := 0; ; n++ {
		if _, ok := s.Pick(n * 7); !ok {
			break
		}
		total++
	}
	for _, j := range jobs {
		wantOK(t, "Put", j.how)
	}
	if total > 8*10 {
		t.Fatalf("8 Puts have done %d steps", total)
	}
}
