package lsm_test

import (
	"fmt"
	"slices"
	"testing"

	"silo/api"
	"silo/levels"
	"silo/lsm"
	"silo/sched"
	"silo/table"
)

// wantTables wants the tables of the state to be what it tells of them, with no more entries than they may have, in blocks of no more than they may be.
func wantTables(t *testing.T, x *lsm.Index, read func(file int) string, c api.Conf) {
	t.Helper()
	for _, a := range x.State().Tables {
		s := read(a.File)
		r, e := table.Open(len(s), func(at, size int) (string, api.Errno) { return s[at : at+size], api.OK })
		wantOK(t, "table.Open", e)
		var keys []string
		for y, e := range r.Scan("") {
			wantOK(t, "Scan", e)
			keys = append(keys, y.Key)
		}
		if len(keys) != a.Count || a.Count > c.Table || keys[0] != a.Low || keys[len(keys)-1] != a.High {
			t.Fatalf("the table %+v has %v", a, keys)
		}
		if want := (len(keys) + c.Each - 1) / c.Each; r.Reads() != want {
			t.Fatalf("the table %+v has %d blocks; want %d", a, r.Reads(), want)
		}
	}
}

// P15.4
func TestFlush(t *testing.T) {
	for _, c := range []api.Conf{small, {Fan: 16, Each: 1, Per: 1, Table: 1}, {Fan: 3, Each: 256, Per: 32, Table: 4096}} {
		for _, n := range []int{1, 2, 3, 4, 10} {
			d := newDisk(t, 1000, 0)
			x := opened(t, d, c)
			want := plain{}
			for i := range n {
				list := []api.Entry{entry(fmt.Sprintf("k%02d", (i*7)%n), fmt.Sprint(i)), gone(fmt.Sprintf("x%02d", i))}
				wantOK(t, "Put", put(x, list...))
				want.put(list...)
			}
			if x.Waiting() != len(want) {
				t.Fatalf("%d wait; want %d", x.Waiting(), len(want))
			}
			wantOK(t, "Flush", lsm.Do(x.Flush))
			s := x.State()
			if x.Waiting() != 0 || len(s.Logs) != 1 || len(s.Tables) != (len(want)+c.Table-1)/c.Table {
				t.Fatalf("%d wait; the state is %+v", x.Waiting(), s)
			}
			for _, a := range s.Tables {
				if a.Level != 0 {
					t.Fatalf("Flush made %+v", a)
				}
			}
			wantTables(t, x, func(file int) string {
				size, _, _ := d.Size(file)
				s, _ := d.Read(file, 0, size)
				return s
			}, c)
			want.want(t, "flushed", x.View())
			wantFiles(t, "flushed", x, d)
			d.Back()
			x = opened(t, d, c)
			if x.Waiting() != 0 {
				t.Fatalf("opened anew: %d wait", x.Waiting())
			}
			want.want(t, "opened anew", x.View())
		}
	}
}

// P15.4: a Flush of an empty memory does nothing.
func TestFlushOfNothing(t *testing.T) {
	x, d := fresh(t)
	for range 2 {
		before := see(x, d)
		wantOK(t, "Flush", lsm.Do(x.Flush))
		before.want(t, "nothing to flush", x, d)
		wantOK(t, "Put", put(x, entry("a", "1")))
		wantOK(t, "Flush", lsm.Do(x.Flush))
	}
}

// P15.4: from its first step to its end a Flush is under way, and another one isn't begun; likewise a Compact.
func TestUnderWay(t *testing.T) {
	for _, kind := range []string{"Flush", "Compact"} {
		for other := 0; ; other++ {
			x, d := fresh(t)
			want := plain{}
			for i := range 3 {
				y := entry(fmt.Sprint(i), "v")
				wantOK(t, "Put", put(x, y))
				want.put(y)
				if i < 2 {
					wantOK(t, "Flush", lsm.Do(x.Flush))
				}
			}
			task := allTasks(x)[kind]
			s := newSide(t)
			first := s.begin(0, task)
			second := s.begin(1, task)
			if other == 0 {
				// It isn't under way, as it has done no step.
				s.steps(1, 1)
				if second.calls != 0 {
					t.Fatalf("%s ended in its first step with %d", kind, second.how)
				}
				s.steps(0, 1)
				wantErrno(t, kind+" beside another one", first.how, api.ErrState)
				s.finish()
				wantOK(t, kind, second.how)
				continue
			}
			s.steps(0, other)
			if first.calls > 0 {
				s.finish()
				break
			}
			before := see(x, d)
			s.steps(1, 1)
			if second.calls != 1 {
				t.Fatalf("%s behind %d steps: the other one goes on", kind, other)
			}
			wantErrno(t, kind+" beside another one", second.how, api.ErrState)
			before.want(t, "refused", x, d)
			s.finish()
			wantOK(t, kind, first.how)
			want.want(t, kind, x.View())
			wantFiles(t, kind, opened(t, d, small), d)
		}
	}
}

// P15.4: what is put while a Flush is under way waits behind it, or is flushed with it; it lasts either way.
func TestPutBesideFlush(t *testing.T) {
	for ahead := range 30 {
		x, d := fresh(t)
		want := plain{}
		for i := range 5 {
			y := entry(fmt.Sprint("k", i), "old")
			wantOK(t, "Put", put(x, y))
			want.put(y)
		}
		s := newSide(t)
		flush := s.begin(0, x.Flush)
		s.steps(0, ahead)
		list := []api.Entry{entry("a", "new"), gone("k1"), entry("k3", "new"), entry("z", "new")}
		first := s.begin(1, putting(x, list...))
		for s.Ready(1) {
			s.steps(1, 1)
		}
		if first.calls > 0 {
			want.put(list...)
			want.want(t, fmt.Sprint("put behind ", ahead, " steps"), x.View())
		}
		s.finish()
		want.put(list...)
		wantOK(t, "Flush", flush.how)
		wantOK(t, "Put", first.how)
		if w := x.Waiting(); w != 0 && w != 4 {
			t.Fatalf("put behind %d steps: %d wait", ahead, w)
		}
		want.want(t, "flushed", x.View())
		wantFiles(t, "flushed", x, d)
		d.Back()
		x = opened(t, d, small)
		want.want(t, "opened anew", x.View())
		wantOK(t, "Flush", lsm.Do(x.Flush))
		want.want(t, "flushed again", x.View())
	}
}

// P15.4
func TestCompact(t *testing.T) {
	for _, c := range []api.Conf{small, {Fan: 2, Each: 1, Per: 1, Table: 1}, {Fan: 3, Each: 7, Per: 32, Table: 2}, {Fan: 2, Each: 256, Per: 10, Table: 4096}} {
		d := newDisk(t, 3000, 0)
		x := opened(t, d, c)
		want := plain{}
		merges := 0
		for i := range 40 {
			list := []api.Entry{entry(fmt.Sprintf("k%02d", (i*7)%23), fmt.Sprint(i)), gone(fmt.Sprintf("l%02d", (i*5)%29))}
			if i%9 == 4 {
				list = []api.Entry{gone(fmt.Sprintf("k%02d", i%23)), entry(fmt.Sprintf("l%02d", i%29), "back")}
			}
			wantOK(t, "Put", put(x, list...))
			want.put(list...)
			if i%2 == 1 {
				wantOK(t, "Flush", lsm.Do(x.Flush))
			}
			for {
				before := see(x, d)
				p, due := levels.Pick(before.state.Tables, c.Fan)
				e := lsm.Do(x.Compact)
				if !due {
					wantErrno(t, "Compact where nothing is due", e, api.ErrNone)
					before.want(t, "nothing to be merged", x, d)
					break
				}
				wantOK(t, "Compact", e)
				merges++
				wantMerged(t, before.state, p, x.State())
				want.want(t, "merged", x.View())
				if held := x.Epochs().Held(); held != before.held+len(p.In) {
					t.Fatalf("%d files wait; there were %d, and %d were merged", held, before.held, len(p.In))
				}
				if i%3 == 0 {
					x = opened(t, d, c)
				}
			}
			wantTables(t, x, func(file int) string {
				size, _, _ := d.Size(file)
				s, _ := d.Read(file, 0, size)
				return s
			}, c)
			if i%5 == 0 {
				wantOK(t, "Sweep", lsm.Do(x.Sweep))
				wantFiles(t, "swept", x, d)
				want.want(t, "swept", x.View())
			}
		}
		if merges < 8 {
			t.Fatalf("%d merges were done", merges)
		}
	}
}

// wantMerged wants one state to be the other one with the plan's tables merged.
func wantMerged(t *testing.T, was api.State, p levels.Plan, is api.State) {
	t.Helper()
	files := func(s api.State) []int {
		var list []int
		for _, a := range s.Tables {
			list = append(list, a.File)
		}
		return list
	}
	for _, a := range is.Tables {
		switch {
		case slices.Contains(p.In, a.File):
			t.Fatalf("the table %+v was merged, and is there", a)
		case slices.Contains(files(was), a.File):
		case a.Level != p.Out || a.Low < p.Low || a.High > p.High:
			t.Fatalf("the plan %+v made the table %+v", p, a)
		}
	}
	for _, file := range files(was) {
		if !slices.Contains(p.In, file) && !slices.Contains(files(is), file) {
			t.Fatalf("the plan %+v took away the table %d", p, file)
		}
	}
	if !slices.Equal(was.Logs, is.Logs) || !slices.Equal(was.Stores, is.Stores) {
		t.Fatalf("the state was %+v, and is %+v", was, is)
	}
}

// P15.4: what is gone is told as gone, however often what it hides was merged with it.
func TestCompactKeepsMarks(t *testing.T) {
	x, _ := fresh(t)
	want := plain{}
	for i := range 12 {
		y := entry("a", fmt.Sprint(i))
		if i%2 == 1 {
			y = gone("a")
		}
		wantOK(t, "Put", put(x, y, entry(fmt.Sprint("b", i), "")))
		want.put(y, entry(fmt.Sprint("b", i), ""))
		wantOK(t, "Flush", lsm.Do(x.Flush))
		for lsm.Do(x.Compact) == api.OK {
			want.want(t, "merged", x.View())
		}
	}
}

// P15.4: on a full disk Flush and Compact are refused, and nothing changes; with room they go on.
func TestTablesOnFullDisk(t *testing.T) {
	for _, kind := range []string{"Flush", "Compact"} {
		refused, done := 0, 0
		for but := range 60 {
			x, d := fresh(t)
			want := plain{}
			for i := range 9 {
				y := entry(fmt.Sprint("k", i), text(20))
				wantOK(t, "Put", put(x, y))
				want.put(y)
				if i%3 == 2 && i < 8 {
					wantOK(t, "Flush", lsm.Do(x.Flush))
				}
			}
			task := allTasks(x)[kind]
			file := fill(t, x, d, but)
			before := see(x, d)
			e := lsm.Do(task)
			want.want(t, kind, x.View())
			if e == api.OK {
				done++
				continue
			}
			wantErrno(t, kind, e, api.ErrFull)
			if refused++; done > 0 {
				t.Fatalf("%s with %d blocks: refused, and with less not", kind, but)
			}
			before.want(t, kind, x, d)
			wantOK(t, "Drop", d.Drop(file))
			wantOK(t, kind, lsm.Do(task))
			want.want(t, kind, x.View())
			d.Back()
			want.want(t, kind, opened(t, d, small).View())
		}
		if refused < 5 || done < 5 {
			t.Fatalf("%s: %d times refused, %d times done", kind, refused, done)
		}
	}
}

// P15.3, P15.4, P15.5: a disk that others fill while a task is under way: it is done, or refused without a trace.
func TestFullMidway(t *testing.T) {
	ends := map[api.Errno]int{}
	for kind := range allTasks(nil) {
		for ahead := 0; ; ahead++ {
			x, d := fresh(t)
			want := plain{}
			for i := range 7 {
				list := []api.Entry{entry(fmt.Sprint("k", i), text(70)), gone(fmt.Sprint("x", i))}
				wantOK(t, "Put", put(x, list...))
				want.put(list...)
				if i%3 == 2 {
					wantOK(t, "Flush", lsm.Do(x.Flush))
				}
			}
			before := see(x, d)
			s := newSide(t)
			j := s.begin(0, allTasks(x)[kind])
			s.steps(0, ahead)
			if j.calls > 0 {
				break
			}
			file := fill(t, x, d, 0)
			s.finish()
			if ends[j.how]++; j.calls != 1 {
				t.Fatalf("%s: %d ends", kind, j.calls)
			}
			if j.how == api.ErrFull {
				if file != 0 {
					wantOK(t, "Drop", d.Drop(file))
				}
				now := see(x, d)
				now.steps = before.steps
				if fmt.Sprint(now) != fmt.Sprint(before) {
					t.Fatalf("%s, full behind %d steps: there is %+v; want %+v", kind, ahead, now, before)
				}
				want.want(t, kind, x.View())
				wantOK(t, kind, lsm.Do(allTasks(x)[kind]))
			} else {
				wantOK(t, kind, j.how)
			}
			switch kind {
			case "Put":
				want.put(entry("z", "9"))
			case "Change":
				want.put(entry("y", "8"))
			}
			want.want(t, kind, x.View())
			if file != 0 && slices.Contains(d.Files(), file) {
				wantOK(t, "Drop", d.Drop(file))
			}
			wantOK(t, "Flush", lsm.Do(x.Flush))
			d.Back()
			want.want(t, kind+", opened anew", opened(t, d, small).View())
		}
	}
	if ends[api.ErrFull] < 20 || ends[api.OK] < 10 {
		t.Errorf("the tasks ended %v", ends)
	}
}

// P15.4: a state that one record can't tell is refused: a manifest tells of eight tables at most whose two keys are as long as may be.
func TestLongState(t *testing.T) {
	d := newDisk(t, 1<<18, 0)
	x := opened(t, d, api.Conf{Fan: 16, Each: 1, Per: 1, Table: 2})
	want := plain{}
	var ends []api.Errno
	for i := range 12 {
		list := []api.Entry{entry(fmt.Sprintf("%02d", i)+text(65534), "low"), entry(fmt.Sprintf("%02d", i)+text(65533)+"x", "high")}
		wantOK(t, "Put", put(x, list...))
		want.put(list...)
		before := see(x, d)
		e := lsm.Do(x.Flush)
		ends = append(ends, e)
		if e != api.OK {
			wantErrno(t, "Flush", e, api.ErrFull)
			before.want(t, "refused", x, d)
		}
	}
	if at := slices.Index(ends, api.ErrFull); at < 6 || at > 7 || slices.Contains(ends[at:], api.OK) {
		t.Fatalf("the Flushes ended %v", ends)
	}
	want.want(t, "long keys", x.View())
	wantOK(t, "Note of little", note(x, api.Edit{Kind: api.SetNext, File: 500}))
	d.Back()
	x, e := lsm.Open(d, api.Conf{Fan: 2, Each: 1, Per: 1, Table: 24}, 1)
	wantOK(t, "Open", e)
	want.want(t, "opened anew", x.View())
	wantOK(t, "Compact", lsm.Do(x.Compact))
	wantOK(t, "Flush", lsm.Do(x.Flush))
	want.want(t, "merged", x.View())
	wantOK(t, "Sweep", lsm.Do(x.Sweep))
	wantFiles(t, "swept", x, d)
}

// P15.6
func TestSweep(t *testing.T) {
	x, d := fresh(t)
	want := plain{}
	puts := 0
	merge := func() {
		t.Helper()
		for i := range 2 {
			puts++
			y := entry(fmt.Sprint("k", i), fmt.Sprint(puts))
			wantOK(t, "Put", put(x, y))
			want.put(y)
			wantOK(t, "Flush", lsm.Do(x.Flush))
		}
		wantOK(t, "Compact", lsm.Do(x.Compact))
	}
	before := see(x, d)
	wantOK(t, "Sweep of nothing", lsm.Do(x.Sweep))
	before.want(t, "nothing to sweep", x, d)
	merge()
	if held := x.Epochs().Held(); held != 2 {
		t.Fatalf("%d files wait", held)
	}
	// Who has entered ahead of it reads on.
	wantOK(t, "Enter", x.Epochs().Enter(0, x.Epochs().Now()))
	v := x.View()
	then := plain{}
	then.put(want.live("")...)
	merge()
	wantOK(t, "Sweep", lsm.Do(x.Sweep))
	then.want(t, "entered ahead", v)
	want.want(t, "now", x.View())
	if held := x.Epochs().Held(); held != 3 {
		t.Fatalf("%d files wait", held)
	}
	wantOK(t, "Leave", x.Epochs().Leave(0))
	wantOK(t, "Sweep", lsm.Do(x.Sweep))
	wantFiles(t, "nobody reads", x, d)
	if held := x.Epochs().Held(); held != 0 {
		t.Fatalf("%d files wait", held)
	}
	want.want(t, "now", x.View())
	// The elder view's tables are gone.
	if _, _, e := v.Get("k0"); e != api.ErrCorrupt {
		t.Fatalf("Get behind a Sweep = %d", e)
	}
}

// P15.6: a reader that has entered ahead of View goes on, whatever is done in between and behind it, step by step.
func TestReadersBesideSweeps(t *testing.T) {
	x, d := fresh(t)
	want := plain{}
	s := newSide(t)
	type reader struct {
		view *lsm.View
		then plain
	}
	var readers [2]*reader
	tasks := []func(lsm.Then) sched.Next{x.Flush, x.Compact, x.Sweep, nil}
	puts := 0
	seed := 1
	for step := range 6000 {
		for slot, task := range tasks {
			switch {
			case s.Alive(slot):
			case task != nil:
				s.begin(slot, task)
			case puts < 500:
				puts++
				y := entry(fmt.Sprint("k", puts%31), fmt.Sprint(puts))
				wantOK(t, "sched's Put", s.Put(slot, x.Put([]api.Entry{y}, func(e api.Errno) sched.Next {
					wantOK(t, "Put", e)
					want.put(y)
					return sched.Next{}
				})))
			}
		}
		seed = seed*1103515245 + 12345
		s.Pick(seed >> 16 & 0xffff)
		n := step % 2
		switch r := readers[n]; {
		case r == nil && seed>>20&7 == 0:
			at := x.Epochs().Now()
			wantOK(t, "Enter", x.Epochs().Enter(n, at))
			then := plain{}
			for _, y := range want {
				then.put(y)
			}
			readers[n] = &reader{x.View(), then}
		case r != nil:
			if seed>>22&3 == 0 {
				r.then.want(t, fmt.Sprint("reading at step ", step), r.view)
			}
			if seed>>24&31 == 0 {
				wantOK(t, "Leave", x.Epochs().Leave(n))
				readers[n] = nil
			}
		}
	}
	for n, r := range readers {
		if r != nil {
			wantOK(t, "Leave", x.Epochs().Leave(n))
		}
	}
	s.finish()
	wantOK(t, "Sweep", lsm.Do(x.Sweep))
	wantFiles(t, "in the end", x, d)
	want.want(t, "in the end", x.View())
}

// P15.6: several Sweeps side by side drop each file once, and each ends when all are gone.
func TestSweepsSideBySide(t *testing.T) {
	for ahead := range 8 {
		x, d := fresh(t)
		for i := range 4 {
			wantOK(t, "Put", put(x, entry(fmt.Sprint("k", i), "")))
			wantOK(t, "Flush", lsm.Do(x.Flush))
		}
		wantOK(t, "Compact", lsm.Do(x.Compact))
		s := newSide(t)
		one := s.begin(0, x.Sweep)
		s.steps(0, ahead)
		other := s.begin(1, x.Sweep)
		for s.Alive(1) {
			s.steps(1, 1)
		}
		wantOK(t, "the other Sweep", other.how)
		wantFiles(t, "the other one has ended", x, d)
		s.finish()
		wantOK(t, "Sweep", one.how)
		wantFiles(t, "both have ended", x, d)
	}
}
