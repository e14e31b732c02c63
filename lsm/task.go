package lsm

import (
	"silo/api"
	"silo/sched"
)

// piece is what a task does in one step: it changes the disk once at most.
type piece struct {
	do   func() api.Errno
	turn bool // the task must have the turn for it, and hasn't it yet
}

// task is a task that is under way.
type task struct {
	index *Index
	then  Then
	slot  int
	left  []piece
	turn  bool      // it has the turn
	made  []int     // files that go again, if the work fails
	over  func()    // what is done where the work ends, however it does
	how   api.Errno // how the work ended, while its files go
}

// task answers a task whose first piece is first; wrong is what is wrong with what was handed in.
func (x *Index) task(wrong api.Errno, then Then, first func(t *task) api.Errno) sched.Next {
	return sched.Next{Do: func(slot int) sched.Next {
		t := &task{index: x, then: then}
		if wrong != api.OK {
			return t.end(wrong)
		}
		t.push(func() api.Errno { return first(t) })
		return t.step(slot)
	}}
}

// push puts pieces behind those that are left.
func (t *task) push(list ...func() api.Errno) {
	for _, do := range list {
		t.left = append(t.left, piece{do: do})
	}
}

// pushTurn puts a piece behind those that are left, from which on the task has the turn.
func (t *task) pushTurn(do func() api.Errno) { t.left = append(t.left, piece{do: do, turn: true}) }

// step does the next piece.
func (t *task) step(slot int) sched.Next {
	p := t.left[0]
	t.slot, t.left = slot, t.left[1:]
	t.turn = t.turn || p.turn
	if t.index.lost() {
		return t.end(api.ErrDown)
	}
	if e := p.do(); e != api.OK {
		return t.fail(e)
	}
	return t.onward()
}

// onward answers the step of the next piece, or ends the work.
func (t *task) onward() sched.Next {
	if len(t.left) == 0 {
		return t.end(t.how)
	}
	n := sched.Next{Do: t.step}
	if t.left[0].turn {
		n.On = t.index.turn
	}
	return n
}

// fail lets go what was made, and ends the work.
func (t *task) fail(e api.Errno) sched.Next {
	if e == api.ErrDown {
		return t.end(e)
	}
	t.how, t.left = e, nil
	if t.turn && t.index.sheet != 0 {
		t.push(t.dropSheet)
	} else {
		t.freeTurn()
	}
	t.pushDrops(t.made)
	t.made = nil
	return t.onward()
}

// pushDrops puts the dropping of files behind the pieces that are left.
func (t *task) pushDrops(files []int) {
	for _, file := range files {
		t.push(func() api.Errno {
			_, e := t.index.drop(file)
			return e
		})
	}
}

// dropSheet drops the manifest that isn't the disk's, and gives the turn back.
func (t *task) dropSheet() api.Errno {
	_, e := t.index.drop(t.index.sheet)
	t.index.sheet = 0
	t.freeTurn()
	return e
}

// freeTurn gives the turn back, if the task has it.
func (t *task) freeTurn() {
	if t.turn {
		t.index.turn.Free(t.slot)
		t.turn = false
	}
}

// end ends the work.
func (t *task) end(e api.Errno) sched.Next {
	t.freeTurn()
	if t.over != nil {
		t.over()
	}
	if t.then == nil {
		return sched.Next{}
	}
	return t.then(e)
}
