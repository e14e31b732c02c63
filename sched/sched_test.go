package sched_test

import (
	"fmt"
	"math"
	"slices"
	"testing"

	"silo/api"
	"silo/sched"
)

func fresh(t *testing.T, slots int) *sched.Sched {
	t.Helper()
	s, e := sched.New(slots)
	if s == nil || e != api.OK {
		t.Fatalf("New(%d) = %v, %d", slots, s, e)
	}
	return s
}

// ok ends the test where one of the answers is an error.
func ok(t *testing.T, answers ...api.Errno) {
	t.Helper()
	for i, e := range answers {
		if e != api.OK {
			t.Fatalf("answer %d is %d", i, e)
		}
	}
}

func wantErr(t *testing.T, call string, got, want api.Errno) {
	t.Helper()
	if got != want {
		t.Errorf("%s = %d; want %d", call, got, want)
	}
}

func wantHolder(t *testing.T, m *sched.Mutex, want int) {
	t.Helper()
	if got := m.Holder(); got != want {
		t.Errorf("Holder() = %d; want %d", got, want)
	}
}

func wantPick(t *testing.T, s *sched.Sched, n, slot int) {
	t.Helper()
	if got, done := s.Pick(n); got != slot || !done {
		t.Errorf("Pick(%d) = %d, %t; want %d, true", n, got, done, slot)
	}
}

// wantNoPick holds that no task is ready, whatever number is picked.
func wantNoPick(t *testing.T, s *sched.Sched) {
	t.Helper()
	for _, n := range []int{0, 1, -1, 5, math.MinInt, math.MaxInt} {
		if slot, done := s.Pick(n); slot != 0 || done {
			t.Errorf("Pick(%d) = %d, %t; want 0, false", n, slot, done)
		}
	}
}

// wantSlots holds in which slots there are tasks, and which of them are ready.
func wantSlots(t *testing.T, s *sched.Sched, alive, ready []int) {
	t.Helper()
	for slot := -2; slot < api.MaxTasks+2; slot++ {
		if got, want := s.Alive(slot), slices.Contains(alive, slot); got != want {
			t.Errorf("Alive(%d) = %t", slot, got)
		}
		if got, want := s.Ready(slot), slices.Contains(ready, slot); got != want {
			t.Errorf("Ready(%d) = %t", slot, got)
		}
	}
}

// told is all that a scheduler and mutexes tell without being changed.
func told(s *sched.Sched, list ...*sched.Mutex) string {
	text := fmt.Sprintf("steps %d", s.Steps())
	for slot := -1; slot <= api.MaxTasks; slot++ {
		text += fmt.Sprintf(" %d: %t %t", slot, s.Alive(slot), s.Ready(slot))
	}
	for _, m := range list {
		text += fmt.Sprintf(" holder %d", m.Holder())
	}
	return text
}

// noSlots are numbers that are no slot's of a scheduler with so many.
func noSlots(slots int) []int {
	return []int{-1, -2, slots, slots + 1, api.MaxTasks + slots, math.MinInt, math.MaxInt, -slots}
}

// end is a Next that ends a task.
func end(int) sched.Next { return sched.Next{} }

// idle is a task that does so many steps, which do nothing.
func idle(steps int) sched.Next {
	return sched.Next{Do: func(int) sched.Next {
		if steps == 1 {
			return sched.Next{}
		}
		return idle(steps - 1)
	}}
}

// holdFor is a task that takes a mutex in its first step, and gives it back in the last one of so many.
func holdFor(m *sched.Mutex, steps int) sched.Next {
	return sched.Next{On: m, Do: func(slot int) sched.Next { return holdOn(m, steps, slot) }}
}

func holdOn(m *sched.Mutex, steps, slot int) sched.Next {
	if steps == 1 {
		m.Free(slot)
		return sched.Next{}
	}
	return sched.Next{Do: func(slot int) sched.Next { return holdOn(m, steps-1, slot) }}
}

// checkCell holds a cell of any type to P5.1: a and b are two unlike values.
func checkCell[T comparable](t *testing.T, a, b T) {
	t.Helper()
	c := sched.NewCell(a)
	want := func(call string, v T, sets int) {
		t.Helper()
		if c.Load() != v || c.Sets() != sets {
			t.Errorf("%T: behind %s: %v, %d; want %v, %d", a, call, c.Load(), c.Sets(), v, sets)
		}
	}
	swap := func(old, v T, want bool) {
		t.Helper()
		if got := c.Swap(old, v); got != want {
			t.Errorf("Swap(%v, %v) = %t", old, v, got)
		}
	}
	want("NewCell", a, 0)
	c.Store(b)
	want("Store", b, 1)
	c.Store(b)
	want("Store of the same", b, 2)
	swap(a, a, false)
	want("Swap of what it hasn't", b, 2)
	swap(a, b, false)
	want("Swap of what it hasn't for what it has", b, 2)
	swap(b, a, true)
	want("Swap", a, 3)
	swap(a, a, true)
	want("Swap for the same", a, 4)
	swap(b, b, false)
	want("Swap of what it had once", a, 4)
	if other := sched.NewCell(b); other.Load() != b || other.Sets() != 0 || c.Load() != a {
		t.Errorf("%T: two cells aren't two", a)
	}
}

type pairOf struct {
	name string
	n    int
}

// P5.1: cells of many types.
func TestCells(t *testing.T) {
	checkCell(t, 0, 1)
	checkCell(t, math.MinInt, math.MaxInt)
	checkCell(t, "", "a")
	checkCell(t, "abc", "abd")
	checkCell(t, false, true)
	checkCell(t, api.Key{}, api.Key{31: 1})
	checkCell(t, pairOf{"a", 1}, pairOf{"a", 2})
	checkCell(t, api.Cold, api.Hot)
	checkCell(t, 0.5, -0.5)
	checkCell(t, new(int), new(int))
	checkCell(t, nil, new(int))
	checkCell[any](t, 1, "1")
	checkCell[any](t, nil, 0)
	checkCell(t, sched.NewMutex(), nil)
}

// P5.1: a value that isn't equal to itself is never the old one.
func TestCellOfNoNumber(t *testing.T) {
	c := sched.NewCell(math.NaN())
	if c.Swap(math.NaN(), 1) || c.Swap(c.Load(), 1) || c.Sets() != 0 || !math.IsNaN(c.Load()) {
		t.Errorf("NaN was swapped: %v, %d", c.Load(), c.Sets())
	}
}

// Rule 1: no call panics, also where two values in interfaces can't be held against each other.
func TestCellOfLists(t *testing.T) {
	list := []int{1}
	c := sched.NewCell[any](list)
	if c.Swap(list, 1) || c.Swap([]int{1}, 1) || c.Sets() != 0 {
		t.Errorf("a list was swapped: %v, %d", c.Load(), c.Sets())
	}
	if c.Swap(1, 2) || c.Sets() != 0 {
		t.Errorf("a number that it hasn't was swapped")
	}
	c.Store(3)
	if !c.Swap(3, list) || c.Sets() != 2 {
		t.Errorf("a number wasn't swapped for a list: %v, %d", c.Load(), c.Sets())
	}
	if got, is := c.Load().([]int); !is || !slices.Equal(got, list) {
		t.Errorf("Load() = %v", c.Load())
	}
	inside := sched.NewCell([1]any{list})
	if inside.Swap([1]any{list}, [1]any{1}) || inside.Sets() != 0 {
		t.Errorf("an array with a list was swapped")
	}
}

// P5.1: a cell hands out the thing that was handed in.
func TestCellKeepsTheThing(t *testing.T) {
	n := 1
	c := sched.NewCell(&n)
	*c.Load() = 2
	if n != 2 || c.Sets() != 0 {
		t.Errorf("the thing is another one: %d, %d", n, c.Sets())
	}
}

// P5.2: Free answers OK to the slot alone that has the mutex.
func TestMutex(t *testing.T) {
	m, other := sched.NewMutex(), sched.NewMutex()
	wantHolder(t, m, -1)
	all := []int{-1, 0, 1, 2, 3, -2, math.MinInt, math.MaxInt}
	for _, slot := range all {
		wantErr(t, "Free of what nobody has", m.Free(slot), api.ErrState)
	}
	s := fresh(t, 3)
	for slot := range 3 {
		ok(t, s.Put(slot, holdFor(m, 2)), s.Step(slot))
		wantHolder(t, m, slot)
		wantHolder(t, other, -1)
		for _, n := range all {
			if n != slot {
				wantErr(t, fmt.Sprintf("Free(%d) of what %d has", n, slot), m.Free(n), api.ErrState)
			}
			wantErr(t, "Free of the other one", other.Free(n), api.ErrState)
		}
		wantHolder(t, m, slot)
		ok(t, m.Free(slot))
		wantHolder(t, m, -1)
		wantErr(t, "Free twice", m.Free(slot), api.ErrState)
		wantHolder(t, m, -1)
		s.Drop(slot)
	}
}

// P5.3: a scheduler has 1 to MaxTasks slots.
func TestNew(t *testing.T) {
	for _, n := range []int{0, -1, -16, math.MinInt, api.MaxTasks + 1, 32, 1 << 40, math.MaxInt} {
		if s, e := sched.New(n); s != nil || e != api.ErrArg {
			t.Errorf("New(%d) = %v, %d", n, s, e)
		}
	}
	for n := 1; n <= api.MaxTasks; n++ {
		s := fresh(t, n)
		wantSlots(t, s, nil, nil)
		wantNoPick(t, s)
		if s.Steps() != 0 {
			t.Errorf("Steps() = %d", s.Steps())
		}
		var slots []int
		for slot := range n {
			ok(t, s.Put(slot, idle(1)))
			slots = append(slots, slot)
			wantSlots(t, s, slots, slots)
		}
		for _, slot := range noSlots(n) {
			wantErr(t, fmt.Sprintf("Put(%d) of %d slots", slot, n), s.Put(slot, idle(1)), api.ErrArg)
		}
		wantSlots(t, s, slots, slots)
	}
}

// P5.3: the refusals of Put, the first one first; none of them changes anything.
func TestPutRefused(t *testing.T) {
	m := sched.NewMutex()
	s := fresh(t, 3)
	ok(t, s.Put(1, holdFor(m, 3)), s.Step(1), s.Put(2, holdFor(m, 1)))
	was := told(s, m)
	for _, slot := range noSlots(3) {
		for _, first := range []sched.Next{idle(1), {}, {On: m}, {Do: end, On: m}} {
			wantErr(t, fmt.Sprintf("Put(%d)", slot), s.Put(slot, first), api.ErrArg)
		}
	}
	for slot := range 3 {
		wantErr(t, fmt.Sprintf("Put(%d) of nothing", slot), s.Put(slot, sched.Next{}), api.ErrArg)
		wantErr(t, fmt.Sprintf("Put(%d) of a mutex alone", slot), s.Put(slot, sched.Next{On: m}), api.ErrArg)
	}
	for _, slot := range []int{1, 2} {
		wantErr(t, fmt.Sprintf("Put(%d) where a task is", slot), s.Put(slot, idle(9)), api.ErrState)
	}
	if now := told(s, m); now != was {
		t.Errorf("refused calls changed\n%s to\n%s", was, now)
	}
	// The tasks that were there do what they would have done.
	ok(t, s.Step(1), s.Step(1), s.Step(2))
	wantSlots(t, s, nil, nil)
	wantHolder(t, m, -1)
}

// P5.3: a task that is put has its first step before it; till then nothing is done.
func TestPut(t *testing.T) {
	s, m := fresh(t, 2), sched.NewMutex()
	var done []int
	first := sched.Next{On: m, Do: func(slot int) sched.Next {
		done = append(done, slot)
		return sched.Next{}
	}}
	ok(t, s.Put(0, first), s.Put(1, first))
	wantSlots(t, s, []int{0, 1}, []int{0, 1})
	wantHolder(t, m, -1)
	if len(done) != 0 || s.Steps() != 0 {
		t.Errorf("Put did a step")
	}
	ok(t, s.Step(1))
	wantHolder(t, m, 1)
	wantSlots(t, s, []int{0}, nil)
	if !slices.Equal(done, []int{1}) {
		t.Errorf("the step was told the slots %v", done)
	}
	ok(t, m.Free(1), s.Step(0))
	wantHolder(t, m, 0)
	if !slices.Equal(done, []int{1, 0}) {
		t.Errorf("the steps were told the slots %v", done)
	}
}

// P5.3: Drop takes the task away, not what it has of mutexes.
func TestDrop(t *testing.T) {
	m := sched.NewMutex()
	s := fresh(t, 3)
	ok(t, s.Put(0, holdFor(m, 2)), s.Put(1, holdFor(m, 2)), s.Put(2, idle(2)), s.Step(0))
	for _, slot := range noSlots(3) {
		s.Drop(slot)
	}
	wantSlots(t, s, []int{0, 1, 2}, []int{0, 2})
	s.Drop(0)
	wantSlots(t, s, []int{1, 2}, []int{2})
	wantHolder(t, m, 0)
	wantErr(t, "Step of a task that was dropped", s.Step(0), api.ErrNone)
	s.Drop(0)
	wantSlots(t, s, []int{1, 2}, []int{2})
	s.Drop(2)
	wantNoPick(t, s)
	wantErr(t, "Step of a task that waits for one that was dropped", s.Step(1), api.ErrState)
	// Another task in that slot has what the slot has.
	ok(t, s.Put(0, sched.Next{Do: func(slot int) sched.Next {
		ok(t, m.Free(slot))
		return sched.Next{}
	}}))
	wantSlots(t, s, []int{0, 1}, []int{0})
	ok(t, s.Step(0))
	wantSlots(t, s, []int{1}, []int{1})
	s.Drop(1)
	wantSlots(t, s, nil, nil)
	if s.Steps() != 2 {
		t.Errorf("Steps() = %d", s.Steps())
	}
}

// P5.4: the refusals of Step; none of them changes anything, none is counted.
func TestStepRefused(t *testing.T) {
	m := sched.NewMutex()
	s := fresh(t, 4)
	ok(t, s.Put(0, holdFor(m, 2)), s.Step(0), s.Put(1, holdFor(m, 1)), s.Put(3, idle(2)))
	was := told(s, m)
	for _, slot := range noSlots(4) {
		wantErr(t, fmt.Sprintf("Step(%d)", slot), s.Step(slot), api.ErrArg)
	}
	wantErr(t, "Step of no task", s.Step(2), api.ErrNone)
	wantErr(t, "Step of a task that waits", s.Step(1), api.ErrState)
	if now := told(s, m); now != was {
		t.Errorf("refused calls changed\n%s to\n%s", was, now)
	}
	ok(t, s.Step(0), s.Step(1), s.Step(3), s.Step(3))
	wantErr(t, "Step of a task that ended", s.Step(3), api.ErrNone)
	if s.Steps() != 5 {
		t.Errorf("Steps() = %d", s.Steps())
	}
}

// P5.4: behind a Next without a Do the slot is free, and the mutex of that Next isn't had.
func TestEnd(t *testing.T) {
	m := sched.NewMutex()
	s := fresh(t, 2)
	ok(t, s.Put(0, sched.Next{Do: func(int) sched.Next { return sched.Next{On: m} }}), s.Put(1, idle(2)))
	ok(t, s.Step(0))
	wantHolder(t, m, -1)
	wantSlots(t, s, []int{1}, []int{1})
	ok(t, s.Put(0, idle(1)))
	wantErr(t, "Put where a task is again", s.Put(0, idle(1)), api.ErrState)
	ok(t, s.Step(0), s.Put(0, idle(2)), s.Step(0))
	wantSlots(t, s, []int{0, 1}, []int{0, 1})
	ok(t, s.Step(0))
	wantSlots(t, s, []int{1}, []int{1})
	if s.Steps() != 4 {
		t.Errorf("Steps() = %d", s.Steps())
	}
}

// P5.4: in a step that waits for a mutex the task has it; it may give it back at once.
func TestTakeAndGiveBack(t *testing.T) {
	m := sched.NewMutex()
	s := fresh(t, 2)
	var had []int
	short := sched.Next{On: m, Do: func(slot int) sched.Next {
		had = append(had, m.Holder())
		wantErr(t, "Free of another slot", m.Free(1-slot), api.ErrState)
		ok(t, m.Free(slot))
		had = append(had, m.Holder())
		return idle(1)
	}}
	ok(t, s.Put(0, short), s.Put(1, short), s.Step(0))
	wantHolder(t, m, -1)
	wantSlots(t, s, []int{0, 1}, []int{0, 1})
	ok(t, s.Step(1))
	if !slices.Equal(had, []int{0, -1, 1, -1}) {
		t.Errorf("the mutex was had by %v", had)
	}
}

// P5.4: a task has a mutex over all steps till it gives it back, and also behind its end.
func TestKeepMutex(t *testing.T) {
	m := sched.NewMutex()
	s := fresh(t, 3)
	ok(t, s.Put(2, holdFor(m, 4)), s.Put(0, holdFor(m, 1)), s.Put(1, idle(9)))
	ok(t, s.Step(2))
	for range 2 {
		ok(t, s.Step(2), s.Step(1))
		wantHolder(t, m, 2)
		wantSlots(t, s, []int{0, 1, 2}, []int{1, 2})
		wantErr(t, "Step of a task that waits", s.Step(0), api.ErrState)
	}
	ok(t, s.Step(2))
	wantHolder(t, m, -1)
	wantSlots(t, s, []int{0, 1}, []int{0, 1})
	ok(t, s.Put(2, sched.Next{On: m, Do: end}), s.Step(2))
	wantHolder(t, m, 2)
	wantSlots(t, s, []int{0, 1}, []int{1})
	ok(t, m.Free(2))
	wantSlots(t, s, []int{0, 1}, []int{0, 1})
}

// P5.4: a task waits also for a mutex that it has itself, till it has given it back.
func TestWaitForItself(t *testing.T) {
	m := sched.NewMutex()
	s := fresh(t, 1)
	again := sched.Next{On: m, Do: end}
	ok(t, s.Put(0, sched.Next{On: m, Do: func(int) sched.Next { return again }}), s.Step(0))
	wantSlots(t, s, []int{0}, nil)
	wantErr(t, "Step", s.Step(0), api.ErrState)
	wantNoPick(t, s)
	ok(t, m.Free(0), s.Step(0))
	wantHolder(t, m, 0)
	wantSlots(t, s, nil, nil)
}

// P5.2, P5.4: a task may have several mutexes; it waits for none but the one of its next step.
func TestTwoMutexes(t *testing.T) {
	a, b := sched.NewMutex(), sched.NewMutex()
	s := fresh(t, 2)
	both := func(first, second *sched.Mutex) sched.Next {
		return sched.Next{On: first, Do: func(int) sched.Next { return sched.Next{On: second, Do: end} }}
	}
	ok(t, s.Put(0, both(a, b)), s.Put(1, both(b, a)), s.Step(0))
	wantSlots(t, s, []int{0, 1}, []int{0, 1})
	ok(t, s.Step(1))
	wantHolder(t, a, 0)
	wantHolder(t, b, 1)
	wantSlots(t, s, []int{0, 1}, nil)
	wantNoPick(t, s)
	s.Drop(1)
	ok(t, b.Free(1), s.Step(0))
	wantHolder(t, a, 0)
	wantHolder(t, b, 0)
}

// P5.5: Pick counts the ready tasks alone, by their slots, and goes round.
func TestPick(t *testing.T) {
	m := sched.NewMutex()
	s := fresh(t, 7)
	// Ready are 1, 3 and 6; 2 and 4 wait; in 0 and 5 there is no task.
	ok(t, s.Put(3, holdFor(m, 100)), s.Step(3))
	ok(t, s.Put(6, idle(100)), s.Put(1, idle(100)), s.Put(4, holdFor(m, 1)), s.Put(2, holdFor(m, 1)))
	picks := []struct{ n, slot int }{{0, 1}, {1, 3}, {2, 6}, {3, 1}, {4, 3}, {5, 6}, {300, 1}, {301, 3}, {-1, 6}, {-2, 3}, {-3, 1}, {-4, 6}, {-300, 1}, {-301, 6},
		{math.MaxInt, 3}, {math.MaxInt - 1, 1}, {math.MinInt, 3}, {math.MinInt + 1, 6}, {math.MinInt + 2, 1}}
	for i, p := range picks {
		wantPick(t, s, p.n, p.slot)
		if s.Steps() != i+2 {
			t.Errorf("Steps() = %d behind %d picks", s.Steps(), i+1)
		}
	}
	wantSlots(t, s, []int{1, 2, 3, 4, 6}, []int{1, 3, 6})
}

// P5.5: of one ready task each number is that task's; with 2^k of them the least int is the first one's.
func TestPickEdges(t *testing.T) {
	for _, slots := range []int{1, 2, 4, 8, 16} {
		for _, p := range []struct{ n, slot int }{{math.MinInt, 0}, {math.MaxInt, slots - 1}, {-1, slots - 1}, {slots, 0}, {0, 0}, {slots - 1, slots - 1}, {-slots, 0}, {-slots - 1, slots - 1}} {
			s := fresh(t, slots)
			for slot := range slots {
				ok(t, s.Put(slot, idle(2)))
			}
			wantPick(t, s, p.n, p.slot)
		}
	}
	s := fresh(t, 3)
	for _, n := range []int{0, 1, 2, -1, math.MinInt, math.MaxInt} {
		ok(t, s.Put(1, idle(1)))
		wantPick(t, s, n, 1)
		wantNoPick(t, s)
	}
}

// P5.5: with no task, and with none that is ready, nothing is picked, done or counted.
func TestNoPick(t *testing.T) {
	m := sched.NewMutex()
	s := fresh(t, 3)
	wantNoPick(t, s)
	ok(t, s.Put(0, sched.Next{On: m, Do: end}), s.Step(0), s.Put(1, holdFor(m, 1)), s.Put(2, holdFor(m, 1)))
	was := told(s, m)
	wantNoPick(t, s)
	if now := told(s, m); now != was {
		t.Errorf("Pick of nothing changed\n%s to\n%s", was, now)
	}
	ok(t, m.Free(0))
	wantPick(t, s, 1, 2)
	wantPick(t, s, 1, 1)
	wantNoPick(t, s)
}

// P5.5: a step is counted once, by Step and by Pick; none by other calls.
func TestSteps(t *testing.T) {
	s := fresh(t, 2)
	want := func(n int) {
		t.Helper()
		if s.Steps() != n {
			t.Errorf("Steps() = %d; want %d", s.Steps(), n)
		}
	}
	ok(t, s.Put(0, idle(3)), s.Put(1, idle(1)))
	want(0)
	ok(t, s.Step(0))
	want(1)
	wantPick(t, s, 1, 1)
	want(2)
	s.Ready(0)
	s.Alive(0)
	s.Step(1)
	s.Step(2)
	s.Put(0, idle(1))
	want(2)
	s.Drop(0)
	want(2)
	s.Pick(0)
	want(2)
	ok(t, s.Put(1, idle(1)), s.Step(1))
	want(3)
	if other := fresh(t, 1); other.Steps() != 0 {
		t.Errorf("another scheduler's Steps() = %d", other.Steps())
	}
}

// P5.6: nil cells.
func TestNilCell(t *testing.T) {
	var c *sched.Cell[int]
	c.Store(5)
	if c.Load() != 0 || c.Sets() != 0 || c.Swap(0, 5) || c.Swap(5, 0) || c.Load() != 0 || c.Sets() != 0 {
		t.Errorf("a nil cell of numbers: %d, %d", c.Load(), c.Sets())
	}
	var text *sched.Cell[string]
	text.Store("a")
	if text.Load() != "" || text.Sets() != 0 || text.Swap("", "a") {
		t.Errorf("a nil cell of texts: %q, %d", text.Load(), text.Sets())
	}
	var thing *sched.Cell[any]
	if thing.Load() != nil || thing.Swap(nil, 1) || thing.Swap([]int{}, 1) || thing.Sets() != 0 {
		t.Errorf("a nil cell of anything: %v", thing.Load())
	}
}

// P5.6: nil mutexes: nobody has one, no slot gives it back, no step waits for it.
func TestNilMutex(t *testing.T) {
	var m *sched.Mutex
	wantHolder(t, m, -1)
	for _, slot := range []int{-1, 0, 1, math.MinInt, math.MaxInt} {
		wantErr(t, "Free of nil", m.Free(slot), api.ErrState)
	}
	s := fresh(t, 1)
	ok(t, s.Put(0, sched.Next{On: m, Do: end}))
	wantSlots(t, s, []int{0}, []int{0})
	ok(t, s.Step(0))
	wantHolder(t, m, -1)
}

// P5.6: a nil scheduler has no slots.
func TestNilSched(t *testing.T) {
	var s *sched.Sched
	wantSlots(t, s, nil, nil)
	wantNoPick(t, s)
	for _, slot := range []int{-1, 0, 1, 15, 16, math.MinInt, math.MaxInt} {
		wantErr(t, "Put", s.Put(slot, idle(1)), api.ErrArg)
		wantErr(t, "Put of nothing", s.Put(slot, sched.Next{}), api.ErrArg)
		wantErr(t, "Step", s.Step(slot), api.ErrArg)
		s.Drop(slot)
	}
	if s.Steps() != 0 {
		t.Errorf("Steps() = %d", s.Steps())
	}
}

// P5.3 to P5.5: a step that puts, steps, picks and drops others: each is done at once.
func TestFromWithin(t *testing.T) {
	s := fresh(t, 4)
	var done []int
	note := func(slot int) sched.Next {
		done = append(done, slot)
		return sched.Next{}
	}
	ok(t, s.Put(3, idle(1)), s.Put(1, sched.Next{Do: func(slot int) sched.Next {
		wantErr(t, "Put in the slot of the step", s.Put(slot, sched.Next{Do: note}), api.ErrState)
		ok(t, s.Put(0, sched.Next{Do: note}), s.Put(2, sched.Next{Do: note}))
		s.Drop(3)
		wantErr(t, "Step of what was dropped", s.Step(3), api.ErrNone)
		ok(t, s.Step(2))
		wantPick(t, s, 0, 0)
		if s.Steps() != 2 || !s.Alive(slot) {
			t.Errorf("in the step Steps() = %d, Alive = %t", s.Steps(), s.Alive(slot))
		}
		ok(t, s.Put(3, sched.Next{Do: note}))
		done = append(done, slot)
		return sched.Next{Do: note}
	}}))
	ok(t, s.Step(1))
	if !slices.Equal(done, []int{2, 0, 1}) || s.Steps() != 3 {
		t.Errorf("done: %v, %d steps", done, s.Steps())
	}
	wantSlots(t, s, []int{1, 3}, []int{1, 3})
	ok(t, s.Step(3), s.Step(1))
	wantSlots(t, s, nil, nil)
	if !slices.Equal(done, []int{2, 0, 1, 3, 1}) || s.Steps() != 5 {
		t.Errorf("done: %v, %d steps", done, s.Steps())
	}
}

// P5.3, P5.4: a step that takes a mutex keeps others out of it, also from within.
func TestFromWithinAMutex(t *testing.T) {
	s, m := fresh(t, 2), sched.NewMutex()
	ok(t, s.Put(1, sched.Next{On: m, Do: end}), s.Put(0, sched.Next{On: m, Do: func(slot int) sched.Next {
		wantHolder(t, m, 0)
		wantErr(t, "Step of a task that waits", s.Step(1), api.ErrState)
		wantErr(t, "Step of the task itself, that has what it waits for", s.Step(slot), api.ErrState)
		ok(t, m.Free(slot), s.Step(1))
		wantHolder(t, m, 1)
		return sched.Next{}
	}}))
	wantPick(t, s, 0, 0)
	wantSlots(t, s, nil, nil)
	wantHolder(t, m, 1)
	if s.Steps() != 2 {
		t.Errorf("Steps() = %d", s.Steps())
	}
}

// P5.3: a task that drops itself is away behind its step; one that it put in its place is there.
func TestDropItself(t *testing.T) {
	s := fresh(t, 1)
	ok(t, s.Put(0, sched.Next{Do: func(slot int) sched.Next {
		s.Drop(slot)
		return idle(5)
	}}), s.Step(0))
	wantSlots(t, s, nil, nil)
	done := 0
	ok(t, s.Put(0, sched.Next{Do: func(slot int) sched.Next {
		s.Drop(slot)
		ok(t, s.Put(slot, sched.Next{Do: func(int) sched.Next {
			done++
			return sched.Next{}
		}}))
		return sched.Next{}
	}}), s.Step(0))
	wantSlots(t, s, []int{0}, []int{0})
	ok(t, s.Step(0))
	wantSlots(t, s, nil, nil)
	if done != 1 || s.Steps() != 3 {
		t.Errorf("%d steps of the new task, %d in all", done, s.Steps())
	}
}
