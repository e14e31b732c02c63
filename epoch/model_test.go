package epoch_test

import (
	"slices"
	"testing"

	"silo/api"
	"silo/epoch"
)

// dice are numbers that look like no others, the same ones in each run.
type dice uint64

// roll answers a number from 0 on, below n.
func (x *dice) roll(n int) int {
	*x = *x*6364136223846793005 + 1442695040888963407
	return int(uint64(*x)>>33) % n
}

// call is a call of a book, with its numbers.
type call struct {
	kind     int
	slot, at int
	things   int // how many
}

// The kinds of a call.
const (
	enter = iota
	leave
	retire
	free
)

// kept is a thing that was retired, and the slots of who may look at it.
type kept struct {
	at      int
	lookers [api.MaxTasks]bool
}

// paper is a book worked out another way: each thing has a list of who may look at it, which readers write themselves into and strike themselves from, so that nobody's time is held against a thing's when it is freed.
type paper struct {
	slots  int
	time   int
	reads  [api.MaxTasks]bool
	things int          // how many were ever retired: each one's number is how many were ahead of it
	kept   map[int]kept // those that wait, by their numbers
}

func newPaper(slots int) *paper { return &paper{slots: slots, time: 1, kept: map[int]kept{}} }

func (p *paper) enter(slot, at int) api.Errno {
	if slot < 0 || slot >= p.slots || at < 1 || at > p.time {
		return api.ErrArg
	}
	if p.reads[slot] {
		return api.ErrState
	}
	p.reads[slot] = true
	p.mark(slot, func(k kept) bool { return at <= k.at })
	return api.OK
}

func (p *paper) leave(slot int) api.Errno {
	if slot < 0 || slot >= p.slots {
		return api.ErrArg
	}
	if !p.reads[slot] {
		return api.ErrState
	}
	p.reads[slot] = false
	p.mark(slot, func(kept) bool { return false })
	return api.OK
}

// mark writes for each thing down whether the slot's reader may look at it.
func (p *paper) mark(slot int, looks func(k kept) bool) {
	for n, k := range p.kept {
		k.lookers[slot] = looks(k)
		p.kept[n] = k
	}
}

func (p *paper) retire(things int) []int {
	var list []int
	for range things {
		p.kept[p.things] = kept{at: p.time, lookers: p.reads}
		list = append(list, p.things)
		p.things++
	}
	p.time++
	return list
}

func (p *paper) free() []int {
	var list []int
	for n, k := range p.kept {
		if k.lookers == [api.MaxTasks]bool{} {
			list = append(list, n)
			delete(p.kept, n)
		}
	}
	slices.Sort(list)
	return list
}

func (p *paper) readers() int {
	n := 0
	for _, reads := range p.reads {
		if reads {
			n++
		}
	}
	return n
}

// agree does a call with both, and tells whether they answer the same and tell the same behind it.
func agree(b *epoch.Book[int], p *paper, c call) bool {
	same := true
	switch c.kind {
	case enter:
		same = b.Enter(c.slot, c.at) == p.enter(c.slot, c.at)
	case leave:
		same = b.Leave(c.slot) == p.leave(c.slot)
	case retire:
		same = b.Retire(p.retire(c.things)...) == api.OK
	case free:
		same = slices.Equal(b.Free(), p.free())
	}
	return same && b.Now() == p.time && b.Held() == len(p.kept) && b.Readers() == p.readers()
}

// P6.1 to P6.3: all rows of six calls out of a few, in a book with two slots, held against the other working-out behind each call.
func TestAllRows(t *testing.T) {
	calls := []call{
		{kind: enter, slot: 0, at: 1}, {kind: enter, slot: 0, at: 2}, {kind: enter, slot: 1, at: 1}, {kind: enter, slot: 1, at: 3},
		{kind: leave, slot: 0}, {kind: leave, slot: 1},
		{kind: retire}, {kind: retire, things: 2},
		{kind: free},
	}
	const length = 6
	rows := 1
	for range length {
		rows *= len(calls)
	}
	for row := range rows {
		b, p := fresh[int](t, 2), newPaper(2)
		rest := row
		for range length {
			if c := calls[rest%len(calls)]; !agree(b, p, c) {
				t.Fatalf("row %d: %+v: the two differ", row, c)
			}
			rest /= len(calls)
		}
		if !agree(b, p, call{kind: free}) {
			t.Fatalf("row %d: the two differ in the last Free", row)
		}
	}
}

// call answers a call, now and then one that is refused.
func (x *dice) call(slots, now int) call {
	c := call{kind: x.roll(4), slot: x.roll(slots), at: max(now-x.roll(5), 1), things: x.roll(4)}
	switch x.roll(12) {
	case 0:
		c.slot = x.roll(3*slots) - slots
	case 1:
		c.at = x.roll(now+4) - 1
	case 2:
		c.things = x.roll(40)
	}
	return c
}

// P6.1 to P6.3: rows of many calls, with any number of slots, held against the other working-out behind each call.
func TestAgainstPaper(t *testing.T) {
	for seed := range 1500 {
		roll := dice(seed)
		slots := 1 + roll.roll(api.MaxTasks)
		if seed%2 == 0 {
			slots = 1 + roll.roll(3)
		}
		b, p := fresh[int](t, slots), newPaper(slots)
		for i := range 300 {
			if c := roll.call(slots, p.time); !agree(b, p, c) {
				t.Fatalf("seed %d, call %d: %+v: the two differ", seed, i, c)
			}
		}
	}
}

// life is what P6.5 asks of one thing: who read when it was retired, and has read on ever since; whether it was freed.
type life struct {
	readers map[int]bool
	freed   bool
}

// P6.5: nothing is freed while one reads on who came ahead of its retiring; when nobody reads all is freed; nothing is freed twice.
func TestWhatHolds(t *testing.T) {
	for seed := range 500 {
		roll := dice(seed)
		slots := 1 + roll.roll(5)
		b := fresh[int](t, slots)
		reads := map[int]bool{}
		var lives []*life
		for i := range 400 {
			c := roll.call(slots, b.Now())
			switch c.kind {
			case enter:
				if b.Enter(c.slot, c.at) == api.OK {
					reads[c.slot] = true
				}
			case leave:
				if b.Leave(c.slot) == api.OK {
					delete(reads, c.slot)
					for _, l := range lives {
						delete(l.readers, c.slot)
					}
				}
			case retire:
				l := &life{readers: map[int]bool{}}
				for slot := range reads {
					l.readers[slot] = true
				}
				ok(t, b.Retire(len(lives)))
				lives = append(lives, l)
			case free:
				for _, n := range b.Free() {
					if lives[n].freed || len(lives[n].readers) > 0 {
						t.Fatalf("seed %d, call %d: thing %d is freed: %+v", seed, i, n, lives[n])
					}
					lives[n].freed = true
				}
				if waits := slices.ContainsFunc(lives, func(l *life) bool { return !l.freed }); waits && len(reads) == 0 {
					t.Fatalf("seed %d, call %d: nobody reads, and something still waits", seed, i)
				}
			}
		}
	}
}

// Many things wait, and go one by one: to free one costs no walk over all that wait.
func TestManyThings(t *testing.T) {
	const many = 200000
	b := fresh[int](t, 1)
	ok(t, b.Enter(0, 1))
	for n := 1; n <= many; n++ {
		ok(t, b.Retire(n))
		if list := b.Free(); len(list) != 0 {
			t.Fatalf("Free() = %v while one reads who came ahead of all", list)
		}
	}
	for n := 1; n <= many; n++ {
		ok(t, b.Leave(0), b.Enter(0, n+1), b.Retire(many+n))
		if list := b.Free(); len(list) != 1 || list[0] != n || b.Held() != many {
			t.Fatalf("Free() = %v, Held() = %d; want %d, %d", list, b.Held(), n, many)
		}
	}
}
