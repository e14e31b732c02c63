package sched_test

import (
	"fmt"
	"testing"

	"silo/api"
	"silo/sched"
)

// dice are numbers that look like no others, the same ones in each run.
type dice uint64

// roll answers a number from 0 on, below n.
func (x *dice) roll(n int) int {
	*x = *x*6364136223846793005 + 1442695040888963407
	return int(uint64(*x)>>33) % n
}

// deed is a step of a plan: what it waits for, and what is done in it.
type deed struct {
	on   int // which mutex; below 0: none
	acts []act
}

// act is something that a step does: a call, with its numbers.
type act struct {
	kind, a, b int
	plan       []deed
}

// The kinds of an act.
const (
	load = iota
	store
	swap
	free
	put
	step
	pick
	drop
	kinds
)

const (
	cells   = 2
	mutexes = 3
)

// plan answers what a task does; the tasks that it puts do no more than so deep.
func (x *dice) plan(slots, deep int) []deed {
	list := make([]deed, 1+x.roll(4))
	held := 0
	for i := range list {
		list[i].on = max(x.roll(2*mutexes)-mutexes, -1)
		for range x.roll(4) {
			list[i].acts = append(list[i].acts, x.act(slots, deep))
		}
		held = max(held, list[i].on)
		// Without this most tasks would soon wait for ever.
		if x.roll(4) > 0 {
			list[i].acts = append(list[i].acts, act{kind: free, a: held, b: -1})
		}
	}
	return list
}

func (x *dice) act(slots, deep int) act {
	a := act{kind: x.roll(kinds)}
	switch a.kind {
	case load:
		a.a = x.roll(cells)
	case store:
		a.a, a.b = x.roll(cells), x.roll(3)
	case swap:
		a.a, a.b = x.roll(cells), 3*x.roll(3)+x.roll(3)
	case free:
		a.a, a.b = x.roll(mutexes), x.roll(2*slots)-slots
	case put:
		a.a = x.roll(slots+2) - 1
		if deep > 0 && x.roll(5) > 0 {
			a.plan = x.plan(slots, deep-1)
		}
	case step, drop:
		a.a = x.roll(slots+2) - 1
	case pick:
		a.a = x.roll(40) - 20
	}
	return a
}

// paper is a scheduler worked out another way: plans that aren't functions, and who has a mutex by lists of what each slot has.
type paper struct {
	slots  int
	tasks  map[int]*[]deed // what is still to be done
	has    map[int]map[int]bool
	cells  [cells]int
	sets   [cells]int
	done   int
	within map[int]bool
	log    []string
}

func newPaper(slots int) *paper {
	return &paper{slots: slots, tasks: map[int]*[]deed{}, has: map[int]map[int]bool{}, within: map[int]bool{}}
}

func (p *paper) note(s string, a ...any) { p.log = append(p.log, fmt.Sprintf(s, a...)) }

// holder answers which slot has a mutex.
func (p *paper) holder(m int) int {
	for slot := range p.slots {
		if p.has[slot][m] {
			return slot
		}
	}
	return -1
}

func (p *paper) ready(slot int) bool {
	plan := p.tasks[slot]
	return plan != nil && ((*plan)[0].on < 0 || p.holder((*plan)[0].on) < 0)
}

func (p *paper) free(m, slot int) api.Errno {
	if !p.has[slot][m] {
		return api.ErrState
	}
	delete(p.has[slot], m)
	return api.OK
}

func (p *paper) put(slot int, plan []deed) api.Errno {
	if slot < 0 || slot >= p.slots || len(plan) == 0 {
		return api.ErrArg
	}
	if p.tasks[slot] != nil {
		return api.ErrState
	}
	p.tasks[slot] = &plan
	return api.OK
}

func (p *paper) step(slot int) api.Errno {
	plan := p.tasks[slot]
	if slot < 0 || slot >= p.slots {
		return api.ErrArg
	}
	if plan == nil {
		return api.ErrNone
	}
	if !p.ready(slot) {
		return api.ErrState
	}
	now := (*plan)[0]
	if now.on >= 0 {
		if p.has[slot] == nil {
			p.has[slot] = map[int]bool{}
		}
		p.has[slot][now.on] = true
	}
	p.within[slot] = true
	for _, a := range now.acts {
		p.act(slot, a)
	}
	delete(p.within, slot)
	p.done++
	if rest := (*plan)[1:]; len(rest) > 0 {
		*plan = rest
	} else {
		delete(p.tasks, slot)
	}
	return api.OK
}

func (p *paper) pick(n int) (int, bool) {
	var ready []int
	for slot := range p.slots {
		if p.ready(slot) {
			ready = append(ready, slot)
		}
	}
	if len(ready) == 0 {
		return 0, false
	}
	for n < 0 {
		n += len(ready)
	}
	for n >= len(ready) {
		n -= len(ready)
	}
	p.step(ready[n])
	return ready[n], true
}

// busy tells whether a Pick could come to a task that is within a step: of that the chapter says nothing.
func (p *paper) busy() bool {
	for slot := range p.within {
		if p.ready(slot) {
			return true
		}
	}
	return false
}

func (p *paper) act(own int, a act) {
	switch a.kind {
	case load:
		p.note("load %d", p.cells[a.a])
	case store:
		p.cells[a.a] = a.b
		p.sets[a.a]++
	case swap:
		same := p.cells[a.a] == a.b/3
		if same {
			p.cells[a.a] = a.b % 3
			p.sets[a.a]++
		}
		p.note("swap %t", same)
	case free:
		p.note("free %d", p.free(a.a, p.whose(own, a.b)))
	case put:
		p.note("put %d", p.put(a.a, a.plan))
	case step:
		if !p.within[a.a] {
			p.note("step %d", p.step(a.a))
		}
	case pick:
		if !p.busy() {
			slot, done := p.pick(a.a)
			p.note("pick %d %t", slot, done)
		}
	case drop:
		if !p.within[a.a] {
			delete(p.tasks, a.a)
		}
	}
}

// whose answers which slot a Free is told: mostly the step's own.
func (p *paper) whose(own, other int) int {
	if other < 0 {
		return own
	}
	return other
}

func (p *paper) told() string {
	s := fmt.Sprint("steps ", p.done, " cells ", p.cells, p.sets)
	for m := range mutexes {
		s += fmt.Sprint(" holder ", p.holder(m))
	}
	for slot := -1; slot <= p.slots; slot++ {
		s += fmt.Sprint(" ", p.tasks[slot] != nil, p.ready(slot))
	}
	return s
}

// real is what the paper is of.
type real struct {
	*sched.Sched
	slots   int
	cells   [cells]*sched.Cell[int]
	mutexes [mutexes]*sched.Mutex
	within  map[int]bool
	log     []string
}

func newReal(t *testing.T, slots int) *real {
	r := &real{Sched: fresh(t, slots), slots: slots, within: map[int]bool{}}
	for i := range r.cells {
		r.cells[i] = sched.NewCell(0)
	}
	for i := range r.mutexes {
		r.mutexes[i] = sched.NewMutex()
	}
	return r
}

func (r *real) note(s string, a ...any) { r.log = append(r.log, fmt.Sprintf(s, a...)) }

// next answers a plan as functions.
func (r *real) next(plan []deed) sched.Next {
	if len(plan) == 0 {
		return sched.Next{}
	}
	n := sched.Next{Do: func(slot int) sched.Next {
		r.within[slot] = true
		for _, a := range plan[0].acts {
			r.act(slot, a)
		}
		delete(r.within, slot)
		return r.next(plan[1:])
	}}
	if plan[0].on >= 0 {
		n.On = r.mutexes[plan[0].on]
	}
	return n
}

func (r *real) busy() bool {
	for slot := range r.within {
		if r.Ready(slot) {
			return true
		}
	}
	return false
}

func (r *real) act(own int, a act) {
	switch a.kind {
	case load:
		r.note("load %d", r.cells[a.a].Load())
	case store:
		r.cells[a.a].Store(a.b)
	case swap:
		r.note("swap %t", r.cells[a.a].Swap(a.b/3, a.b%3))
	case free:
		slot := own
		if a.b >= 0 {
			slot = a.b
		}
		r.note("free %d", r.mutexes[a.a].Free(slot))
	case put:
		r.note("put %d", r.Put(a.a, r.next(a.plan)))
	case step:
		if !r.within[a.a] {
			r.note("step %d", r.Step(a.a))
		}
	case pick:
		if !r.busy() {
			slot, done := r.Pick(a.a)
			r.note("pick %d %t", slot, done)
		}
	case drop:
		if !r.within[a.a] {
			r.Drop(a.a)
		}
	}
}

func (r *real) told() string {
	var values, sets [cells]int
	for i, c := range r.cells {
		values[i], sets[i] = c.Load(), c.Sets()
	}
	s := fmt.Sprint("steps ", r.Steps(), " cells ", values, sets)
	for _, m := range r.mutexes {
		s += fmt.Sprint(" holder ", m.Holder())
	}
	for slot := -1; slot <= r.slots; slot++ {
		s += fmt.Sprint(" ", r.Alive(slot), r.Ready(slot))
	}
	return s
}

// P5.1 to P5.5: scripts of many calls, from without and from within steps, held against the other working-out behind each call.
func TestAgainstPaper(t *testing.T) {
	for seed := range 1500 {
		roll := dice(seed)
		slots := 1 + roll.roll(5)
		if seed%20 == 0 {
			slots = api.MaxTasks
		}
		r, p := newReal(t, slots), newPaper(slots)
		for i := range 200 {
			a := roll.act(slots, 2)
			switch a.kind {
			case load, store:
				a = act{kind: put, a: roll.roll(slots), plan: roll.plan(slots, 2)}
			case swap:
				a = act{kind: pick, a: roll.roll(9) - 4}
			}
			// From without a Free is mostly told the slot that has the mutex.
			own := -1
			if a.kind == free {
				own = p.holder(a.a)
			}
			r.act(own, a)
			p.act(own, a)
			if got, want := fmt.Sprint(r.log, r.told()), fmt.Sprint(p.log, p.told()); got != want {
				t.Fatalf("seed %d, call %d (%v): told\n%s; want\n%s", seed, i, a, got, want)
			}
			r.log, p.log = nil, nil
		}
	}
}
