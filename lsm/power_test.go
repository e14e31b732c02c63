package lsm_test

import (
	"fmt"
	"slices"
	"strconv"
	"testing"

	"silo/api"
	"silo/disk"
	"silo/lsm"
	"silo/sched"
)

// deed is a Put, a Change or a Note of a life, and what is known of it.
type deed struct {
	kind         string
	began, ended int // the steps of the life; -1: not yet
	how          api.Errno
	store        int // of a Note
}

// life is an index that is used by tasks side by side, over losses of power.
type life struct {
	t     *testing.T
	d     *disk.Disk
	x     *lsm.Index
	conf  api.Conf
	deeds []*deed
	s     side
	now   int // steps so far
	seed  int
	jobs  []*job // of all tasks of this opening that haven't ended when power goes
}

func newLife(t *testing.T, hot, seed int, c api.Conf) *life {
	t.Helper()
	d := newDisk(t, hot, 1000)
	return &life{t: t, d: d, x: opened(t, d, c), conf: c, s: newSide(t), seed: seed}
}

func (l *life) random(n int) int {
	l.seed = (l.seed*1103515245 + 12345) & 0x7fffffff
	return l.seed >> 8 % n
}

// beginDeed begins a Put, a Change or a Note with a number of its own.
func (l *life) beginDeed(slot int, kind string) {
	n := len(l.deeds)
	y := &deed{kind: kind, began: -1, ended: -1}
	l.deeds = append(l.deeds, y)
	then := func(e api.Errno) sched.Next {
		y.how, y.ended = e, l.now
		return sched.Next{}
	}
	list := []api.Entry{entry(fmt.Sprintf("%s%03d.0", kind, n), "v"), entry(fmt.Sprintf("%s%03d.1", kind, n), text(n%50))}
	var task sched.Next
	switch kind {
	case "put":
		task = l.x.Put(append([]api.Entry{entry("last", strconv.Itoa(n))}, list...), then)
	case "change":
		task = l.x.Change(func(v *lsm.View) []api.Entry {
			c, _, _ := v.Get("a count")
			i, _ := strconv.Atoi(c.Val)
			return append([]api.Entry{entry("a count", strconv.Itoa(i+1))}, list...)
		}, then)
	case "note":
		y.store = l.x.Number()
		if l.d.Make(api.Cold, y.store) == api.ErrDown || l.d.Sync(y.store) == api.ErrDown {
			return
		}
		task = l.x.Note(func(*lsm.View) []api.Edit { return []api.Edit{addStore(y.store, api.Cold)} }, then)
	}
	first := task.Do
	task.Do = func(slot int) sched.Next {
		y.began = l.now
		return first(slot)
	}
	wantOK(l.t, "sched's Put", l.s.Put(slot, task))
}

// live lets so many deeds begin, and tasks beside them, up to their end or a loss of power.
func (l *life) live(deeds int) {
	l.t.Helper()
	kinds := []string{"put", "put", "change", "note"}
	others := []func(lsm.Then) sched.Next{l.x.Flush, l.x.Compact, l.x.Sweep}
	for l.run(deeds > 0) {
		if l.d.Down() {
			return
		}
		for i, kind := range kinds {
			if !l.s.Alive(i) && deeds > 0 && l.random(3) == 0 {
				l.beginDeed(i, kind)
				deeds--
			}
		}
		for i, task := range others {
			if slot := len(kinds) + i; !l.s.Alive(slot) && deeds > 0 && l.random(20) == 0 {
				l.jobs = append(l.jobs, l.s.begin(slot, task))
			}
		}
	}
}

// run lets a task do a step, which changes the disk once at most.
func (l *life) run(more bool) bool {
	l.t.Helper()
	l.now++
	changes := l.d.Steps()
	if _, ok := l.s.Pick(l.random(1000)); !ok {
		return more
	}
	if n := l.d.Steps() - changes; n > 1 {
		l.t.Fatalf("a step has changed the disk %d times", n)
	}
	return true
}

// lose lets all tasks end behind a loss of power, and holds what they say.
func (l *life) lose(name string) {
	l.t.Helper()
	lost := l.now
	for {
		l.now++
		if _, ok := l.s.Pick(l.random(1000)); !ok {
			break
		}
	}
	for n, y := range l.deeds {
		if y.ended > lost && y.how != api.ErrDown {
			l.t.Fatalf("%s: the deed %d (%s) ended with %d", name, n, y.kind, y.how)
		}
	}
}

// check holds the index that was opened against the deeds.
func (l *life) check(name string) {
	l.t.Helper()
	v, stores := l.x.View(), l.x.State().Stores
	there := func(key string) bool {
		_, ok, e := v.Get(key)
		wantOK(l.t, name+": Get", e)
		return ok
	}
	done := map[int]bool{}
	count := 0
	for n, y := range l.deeds {
		var is bool
		if y.kind == "note" {
			// The number of a store that isn't there may have come again.
			is = y.how != api.ErrFull && slices.Contains(stores, api.Store{File: y.store, Tier: int(api.Cold)})
		} else {
			is = there(fmt.Sprintf("%s%03d.0", y.kind, n))
			if other := there(fmt.Sprintf("%s%03d.1", y.kind, n)); other != is {
				l.t.Fatalf("%s: the deed %d (%s) is there in part", name, n, y.kind)
			}
		}
		switch {
		case is && (y.began < 0 || y.ended >= 0 && y.how != api.OK && y.how != api.ErrDown):
			l.t.Fatalf("%s: the deed %d (%s) is there, that began at %d and ended with %d", name, n, y.kind, y.began, y.how)
		case !is && y.ended >= 0 && y.how == api.OK:
			l.t.Fatalf("%s: the deed %d (%s), which was answered, isn't there", name, n, y.kind)
		}
		done[n] = is
		if is && y.kind == "change" {
			count++
		}
	}
	if y, _, _ := v.Get("a count"); y.Val != strconv.Itoa(count) && !(count == 0 && y.Val == "") {
		l.t.Fatalf("%s: %q is counted behind %d Changes", name, y.Val, count)
	}
	l.checkLast(name, v, done)
}

// checkLast holds the key that each Put has put against an order in which they may have been done.
func (l *life) checkLast(name string, v *lsm.View, done map[int]bool) {
	l.t.Helper()
	y, ok, _ := v.Get("last")
	last, _ := strconv.Atoi(y.Val)
	for n, z := range l.deeds {
		if z.kind != "put" || !done[n] {
			continue
		}
		if !ok || !done[last] || l.deeds[last].ended >= 0 && z.began > l.deeds[last].ended {
			l.t.Fatalf("%s: the last Put is %q, %t; the Put %d came behind it", name, y.Val, ok, n)
		}
	}
	// What isn't known stays as it is from here on.
	for n, z := range l.deeds {
		if z.ended < 0 || z.how == api.ErrDown {
			z.ended, z.how = l.now, api.ErrDown
			if done[n] {
				z.how = api.OK
			} else {
				z.how = api.ErrFull
			}
		}
	}
}

// reopen opens the index, with the power going at each change of that, one after the other.
func (l *life) reopen(name string, how int) {
	l.t.Helper()
	for n := 0; ; n++ {
		l.d.Arm(n)
		x, e := lsm.Open(l.d, l.conf, 2)
		if e == api.OK {
			l.d.Arm(-1)
			l.x, l.s, l.jobs = x, newSide(l.t), nil
			wantFiles(l.t, name, x, l.d)
			return
		}
		wantErrno(l.t, fmt.Sprintf("%s: Open with %d changes", name, n), e, api.ErrDown)
		l.d.Back(keepsOf(l.d, how+n, n)...)
	}
}

var confs = []api.Conf{small, {Fan: 3, Each: 1, Per: 1, Table: 1}, {Fan: 2, Each: 256, Per: 32, Table: 4096}}

// P15.9, P15.12: the power goes at each change, while tasks are under way, and while the index is opened, once and again.
func TestPower(t *testing.T) {
	for how := range 4 {
		for seed, c := range confs {
			ended := false
			for n := 0; !ended; n += 1 + how%2 {
				l := newLife(t, 2000, seed+10*how, c)
				l.d.Arm(n)
				l.live(24)
				ended = !l.d.Down()
				for round := range 3 {
					name := fmt.Sprintf("conf %v, keeps %d, behind %d changes, round %d", c, how, n, round)
					if !l.d.Down() {
						l.d.Back(keepsOf(l.d, how+round, n)...)
					}
					l.lose(name)
					for _, j := range l.jobs {
						if j.calls != 1 {
							t.Fatalf("%s: a task ended %d times", name, j.calls)
						}
					}
					wantDown(t, name, l.x)
					l.d.Back(keepsOf(l.d, how+round, n)...)
					wantDown(t, name+", power again", l.x)
					l.reopen(name, how+round)
					l.check(name)
					l.d.Arm(5 + (n*7+round)%60)
					l.live(10)
				}
			}
		}
	}
}

// P15.9: a loss of power that nobody has seen is told by each task, those that are under way among them, at whatever step it came, and whatever it kept; and nothing that was answered is lost by it.
func TestUnseenLoss(t *testing.T) {
	for how := range 4 {
		for kind := range allTasks(nil) {
			for ahead, ended := 0, false; !ended; ahead++ {
				x, d := fresh(t)
				want := plain{}
				for i := range 5 {
					y := entry(fmt.Sprint("k", i), fmt.Sprint(i))
					wantOK(t, "Put", put(x, y))
					want.put(y)
					if i%2 == 1 {
						wantOK(t, "Flush", lsm.Do(x.Flush))
					}
				}
				s := newSide(t)
				first := s.begin(0, allTasks(x)[kind])
				second := s.begin(1, x.Compact)
				s.steps(1, ahead/3)
				s.steps(0, ahead)
				ended = first.calls > 0
				d.Back(keepsOf(d, how, ahead)...)
				name := fmt.Sprintf("%s, %d steps ahead of a loss, keeps %d", kind, ahead, how)
				wasFirst, wasSecond := first.calls, second.calls
				steps := d.Steps()
				s.finish()
				if wasFirst == 0 {
					wantErrno(t, name, first.how, api.ErrDown)
				}
				if wasSecond == 0 {
					wantErrno(t, name+": Compact", second.how, api.ErrDown)
				}
				wantDown(t, name, x)
				if n := d.Steps() - steps; n > 1 {
					t.Fatalf("%s: the disk was changed %d times", name, n)
				}
				if wasFirst > 0 && kind == "Put" {
					want.put(entry("z", "9"))
				}
				if wasFirst > 0 && kind == "Change" {
					want.put(entry("y", "8"))
				}
				y := opened(t, d, small)
				for key, one := range want {
					wantGet(t, name, y.View(), key, one, true)
				}
				wantFiles(t, name, y, d)
				wantDown(t, name+", opened anew", x)
				wantOK(t, name+": Put", put(y, entry("more", "")))
				wantOK(t, name+": Flush", lsm.Do(y.Flush))
			}
		}
	}
}

// P15.9: an index on whose disk another one was opened says the same, and doesn't touch the other one's files.
func TestOpenedBeside(t *testing.T) {
	for kind := range allTasks(nil) {
		for ahead := 0; ; ahead++ {
			x, d := fresh(t)
			for i := range 3 {
				wantOK(t, "Put", put(x, entry(fmt.Sprint("k", i), "")))
				if i < 2 {
					wantOK(t, "Flush", lsm.Do(x.Flush))
				}
			}
			s := newSide(t)
			j := s.begin(0, allTasks(x)[kind])
			s.steps(0, ahead)
			if j.calls > 0 {
				break
			}
			y := opened(t, d, small)
			wantOK(t, "Put", put(y, entry("other", "")))
			list, changes := scan(t, y.View(), ""), d.Steps()
			s.finish()
			wantErrno(t, kind, j.how, api.ErrDown)
			wantDown(t, kind, x)
			if d.Steps() != changes {
				t.Fatalf("%s: the disk was changed", kind)
			}
			d.Back()
			if got := scan(t, opened(t, d, small).View(), ""); !slices.Equal(got, list) {
				t.Fatalf("%s: the other one has %v; want %v", kind, got, list)
			}
		}
	}
}

// P15.9: an index that has turned to another manifest, lost its power unseen, and was opened in part, doesn't turn back.
func TestNoTurningBack(t *testing.T) {
	for ahead := range 30 {
		for changes := range 12 {
			x, d := fresh(t)
			want := plain{}
			for i := range 2 {
				y := entry("k", fmt.Sprint(i))
				wantOK(t, "Put", put(x, y))
				want.put(y)
				wantOK(t, "Flush", lsm.Do(x.Flush))
			}
			s := newSide(t)
			j := s.begin(0, x.Compact)
			s.steps(0, ahead)
			if j.calls > 0 {
				return
			}
			d.Back(keepsOf(d, 1, 0)...)
			d.Arm(changes)
			if _, e := lsm.Open(d, small, 1); e != api.OK {
				wantErrno(t, "Open", e, api.ErrDown)
			}
			d.Back(keepsOf(d, 1, 0)...)
			s.finish()
			wantErrno(t, "Compact", j.how, api.ErrDown)
			want.want(t, fmt.Sprintf("%d steps, %d changes", ahead, changes), opened(t, d, small).View())
		}
	}
	t.Fatal("the Compact doesn't end")
}

// P15.9: the power may go by a change of others.
func TestPowerOfOthers(t *testing.T) {
	x, d := fresh(t)
	wantOK(t, "Put", put(x, entry("a", "1")))
	d.Arm(0)
	wantErrno(t, "Make", d.Make(api.Cold, 900), api.ErrDown)
	wantErrno(t, "Put of what may not be", put(x, entry("b", ""), entry("a", "")), api.ErrArg)
	wantErrno(t, "Change with nil", change(x, nil), api.ErrArg)
	wantDown(t, "others", x)
	d.Back()
	wantDown(t, "others, power again", x)
	if x.Waiting() != 1 || len(x.State().Logs) != 1 || x.Epochs() == nil || x.Number() < 1 {
		t.Fatal("what isn't a task changes nothing, and is answered")
	}
	plain{"a": entry("a", "1")}.want(t, "opened anew", opened(t, d, small).View())
}

// P15.9: an index whose log others have taken away isn't on the disk that it was opened on.
func TestLogTakenAway(t *testing.T) {
	x, d := fresh(t)
	wantOK(t, "Put", put(x, entry("a", "1")))
	wantOK(t, "Drop", d.Drop(x.State().Logs[0]))
	wantErrno(t, "Put", put(x, entry("b", "2")), api.ErrDown)
	wantDown(t, "no log", x)
}

// P15.2: a disk that is down, or goes down, isn't opened.
func TestOpenPower(t *testing.T) {
	for n := 0; ; n++ {
		d := newDisk(t, 100, 0)
		d.Arm(n)
		x, e := lsm.Open(d, small, 1)
		if e == api.OK {
			if n < 5 || x == nil {
				t.Fatalf("Open came to %d changes", n)
			}
			break
		}
		if x != nil || e != api.ErrDown {
			t.Fatalf("Open with %d changes = %v, %d", n, x, e)
		}
		if x, e := lsm.Open(d, small, 1); x != nil || e != api.ErrDown {
			t.Fatalf("Open of a disk that is down = %v, %d", x, e)
		}
		d.Back()
		plain{}.want(t, "opened anew", opened(t, d, small).View())
	}
}

// P15.2: what an opening tells lasts, were it of bytes that weren't sure up to then.
func TestOpenMakesSure(t *testing.T) {
	x, d := fresh(t)
	for i := range 4 {
		s := newSide(t)
		s.begin(0, putting(x, entry(fmt.Sprint("k", i), "1")))
		s.steps(0, 2)
		x = opened(t, d, small)
	}
	list := scan(t, x.View(), "")
	d.Back()
	if got := scan(t, opened(t, d, small).View(), ""); !slices.Equal(got, list) || len(list) < 3 {
		t.Fatalf("there is %v; there was %v", got, list)
	}
}

// P15.9: a loss of power that nobody has seen, right behind an opening.
func TestUnseenLossBehindOpen(t *testing.T) {
	for how := range 3 {
		for opens := range 3 {
			x, d := fresh(t)
			wantOK(t, "Put", put(x, entry("a", "1")))
			for range opens {
				x = opened(t, d, small)
			}
			d.Back(keepsOf(d, how, 3)...)
			wantDown(t, fmt.Sprintf("keeps %d, opened %d times more", how, opens), x)
			plain{"a": entry("a", "1")}.want(t, "opened anew", opened(t, d, small).View())
		}
	}
}
