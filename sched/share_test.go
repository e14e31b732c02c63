package sched_test

import (
	"math"
	"slices"
	"testing"

	"silo/api"
	"silo/sched"
)

// adder is a task that adds 1 to a cell so often, each time in two steps: a Load, and a Store of one more. With a mutex it has that from the first to the second one.
func adder(c *sched.Cell[int], m *sched.Mutex, times int) sched.Next {
	if times == 0 {
		return sched.Next{}
	}
	return sched.Next{On: m, Do: func(int) sched.Next {
		seen := c.Load()
		return sched.Next{Do: func(slot int) sched.Next {
			c.Store(seen + 1)
			m.Free(slot)
			return adder(c, m, times-1)
		}}
	}}
}

// swapper adds 1 to a cell so often by Swap of what it read alone, a step for the Load, one for the Swap; it reads again where that fails.
func swapper(c *sched.Cell[int], times int) sched.Next {
	if times == 0 {
		return sched.Next{}
	}
	return sched.Next{Do: func(int) sched.Next {
		seen := c.Load()
		return sched.Next{Do: func(int) sched.Next {
			if c.Swap(seen, seen+1) {
				return swapper(c, times-1)
			}
			return swapper(c, times)
		}}
	}}
}

// The chapter's example, its first half: without a mutex one of the two is lost.
func TestExampleLost(t *testing.T) {
	c := sched.NewCell(0)
	s := fresh(t, 2)
	ok(t, s.Put(0, adder(c, nil, 1)), s.Put(1, adder(c, nil, 1)))
	wantSlots(t, s, []int{0, 1}, []int{0, 1})
	for i, p := range []struct {
		n, slot, value, sets int
		left                 []int
	}{{0, 0, 0, 0, []int{0, 1}}, {1, 1, 0, 0, []int{0, 1}}, {0, 0, 1, 1, []int{1}}, {0, 1, 1, 2, nil}} {
		wantPick(t, s, p.n, p.slot)
		wantSlots(t, s, p.left, p.left)
		if c.Load() != p.value || c.Sets() != p.sets || s.Steps() != i+1 {
			t.Errorf("behind pick %d the cell is %d, set %d times, behind %d steps", i, c.Load(), c.Sets(), s.Steps())
		}
	}
	wantNoPick(t, s)
}

// The chapter's example, its second half: with a mutex each pick of the other one in between picks the first one.
func TestExampleMutex(t *testing.T) {
	for _, n := range []int{0, 1, -1, 2, 7, math.MinInt, math.MaxInt} {
		c, m := sched.NewCell(0), sched.NewMutex()
		s := fresh(t, 2)
		ok(t, s.Put(0, adder(c, m, 1)), s.Put(1, adder(c, m, 1)))
		wantPick(t, s, 0, 0)
		wantHolder(t, m, 0)
		wantSlots(t, s, []int{0, 1}, []int{0})
		wantErr(t, "Step of the other one", s.Step(1), api.ErrState)
		wantPick(t, s, n, 0)
		wantHolder(t, m, -1)
		wantSlots(t, s, []int{1}, []int{1})
		if c.Load() != 1 {
			t.Errorf("the cell is %d in between", c.Load())
		}
		wantPick(t, s, n, 1)
		wantHolder(t, m, 1)
		wantPick(t, s, n, 1)
		wantHolder(t, m, -1)
		wantSlots(t, s, nil, nil)
		if c.Load() != 2 || c.Sets() != 2 || s.Steps() != 4 {
			t.Errorf("the cell is %d, set %d times, behind %d steps", c.Load(), c.Sets(), s.Steps())
		}
	}
}

// race is what is picked: tasks, the cell they share, the mutex they share, if they do.
type race struct {
	s *sched.Sched
	c *sched.Cell[int]
	m *sched.Mutex
}

// readyCount answers how many tasks are ready.
func (r race) readyCount() int {
	n := 0
	for slot := range api.MaxTasks {
		if r.s.Ready(slot) {
			n++
		}
	}
	return n
}

// eachOrder runs a race in each order in which its tasks can be picked, and hands each race that is over to seen; it answers how many there were.
func eachOrder(t *testing.T, start func() race, seen func(r race)) int {
	t.Helper()
	orders := 0
	var picks []int
	for {
		r := start()
		var widths []int
		for i := 0; ; i++ {
			width := r.readyCount()
			if width == 0 {
				break
			}
			if i == len(picks) {
				picks = append(picks, 0)
			}
			widths = append(widths, width)
			if _, done := r.s.Pick(picks[i]); !done {
				t.Fatalf("nothing was picked of %d", width)
			}
		}
		orders++
		seen(r)
		// The next order: the last pick that can be a greater one is, and those behind it begin anew.
		last := len(widths) - 1
		for last >= 0 && picks[last]+1 == widths[last] {
			last--
		}
		if last < 0 {
			return orders
		}
		picks = append(slices.Clone(picks[:last]), picks[last]+1)
	}
}

// starter answers what begins a race of so many tasks.
func starter(t *testing.T, tasks int, task func(r race) sched.Next) func() race {
	return func() race {
		r := race{fresh(t, tasks), sched.NewCell(0), sched.NewMutex()}
		for slot := range tasks {
			ok(t, r.s.Put(slot, task(r)))
		}
		return r
	}
}

// P5.7: two and three tasks add under a mutex, in each order that there is: nothing is lost.
func TestAllOrdersWithMutex(t *testing.T) {
	for _, p := range []struct{ tasks, times, orders int }{{2, 1, 2}, {2, 3, 20}, {3, 2, 90}, {4, 2, 2520}} {
		start := starter(t, p.tasks, func(r race) sched.Next { return adder(r.c, r.m, p.times) })
		orders := eachOrder(t, start, func(r race) {
			if r.c.Load() != p.tasks*p.times || r.c.Sets() != p.tasks*p.times || r.m.Holder() != -1 {
				t.Fatalf("%d tasks, %d times: %d", p.tasks, p.times, r.c.Load())
			}
			if r.s.Steps() != 2*p.tasks*p.times {
				t.Fatalf("%d tasks, %d times: %d steps", p.tasks, p.times, r.s.Steps())
			}
		})
		// A mutex is had for two steps, so orders are those of whose turn it is.
		if orders != p.orders {
			t.Errorf("%d tasks, %d times: %d orders; want %d", p.tasks, p.times, orders, p.orders)
		}
	}
}

// P5.7: without a mutex something is lost in most orders; so what holds with one is the mutex's doing.
func TestAllOrdersWithout(t *testing.T) {
	ends := map[int]int{}
	start := starter(t, 2, func(r race) sched.Next { return adder(r.c, nil, 1) })
	if orders := eachOrder(t, start, func(r race) { ends[r.c.Load()]++ }); orders != 6 {
		t.Errorf("%d orders; want 6", orders)
	}
	if len(ends) != 2 || ends[1] != 4 || ends[2] != 2 {
		t.Errorf("the cell ended as %v", ends)
	}
}

// P5.7: tasks that swap, in each order that there is: nothing is lost.
func TestAllOrdersOfSwaps(t *testing.T) {
	for _, p := range []struct{ tasks, times int }{{2, 1}, {2, 2}, {3, 1}, {2, 3}} {
		again := 0
		start := starter(t, p.tasks, func(r race) sched.Next { return swapper(r.c, p.times) })
		eachOrder(t, start, func(r race) {
			if r.c.Load() != p.tasks*p.times || r.c.Sets() != p.tasks*p.times {
				t.Fatalf("%d tasks, %d times: %d", p.tasks, p.times, r.c.Load())
			}
			if r.s.Steps() > 2*p.tasks*p.times {
				again++
			}
		})
		if again == 0 {
			t.Errorf("%d tasks, %d times: no swap ever failed", p.tasks, p.times)
		}
	}
}

// P5.7: sixteen tasks, picked at random, half of them by a mutex over several steps: at most one is inside at a time, and nothing is lost.
func TestManyTasks(t *testing.T) {
	for seed := range 200 {
		roll := dice(seed)
		r := race{fresh(t, api.MaxTasks), sched.NewCell(0), sched.NewMutex()}
		swapped := sched.NewCell(0)
		inside, times := 0, 1+roll.roll(6)
		for slot := range api.MaxTasks {
			if slot%2 == 0 {
				ok(t, r.s.Put(slot, visitor(t, r, &inside, times, 1+roll.roll(4))))
			} else {
				ok(t, r.s.Put(slot, swapper(swapped, times)))
			}
		}
		for {
			if _, done := r.s.Pick(roll.roll(1000) - 500); !done {
				break
			}
			if holds := r.m.Holder() != -1; holds != (inside == 1) {
				t.Fatalf("seed %d: %d tasks are inside, the mutex's holder is %d", seed, inside, r.m.Holder())
			}
		}
		wantSlots(t, r.s, nil, nil)
		if want := api.MaxTasks / 2 * times; r.c.Load() != want || swapped.Load() != want || swapped.Sets() != want {
			t.Fatalf("seed %d: %d and %d of %d", seed, r.c.Load(), swapped.Load(), want)
		}
	}
}

// visitor takes the mutex so often, is inside for so many steps behind the first one, and adds 1 in the last one to what it read in the first.
func visitor(t *testing.T, r race, inside *int, times, steps int) sched.Next {
	if times == 0 {
		return sched.Next{}
	}
	return sched.Next{On: r.m, Do: func(slot int) sched.Next {
		if *inside++; *inside != 1 || r.m.Holder() != slot {
			t.Errorf("%d tasks are inside, the mutex's holder is %d, not %d", *inside, r.m.Holder(), slot)
		}
		seen := r.c.Load()
		var stay func(left int) sched.Next
		stay = func(left int) sched.Next {
			return sched.Next{Do: func(slot int) sched.Next {
				if left > 1 {
					return stay(left - 1)
				}
				r.c.Store(seen + 1)
				*inside--
				ok(t, r.m.Free(slot))
				return visitor(t, r, inside, times-1, steps)
			}}
		}
		return stay(steps)
	}}
}
