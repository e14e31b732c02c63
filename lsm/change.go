package lsm

import (
	"slices"

	"silo/api"
	"silo/block"
	"silo/manifest"
	"silo/sched"
	"silo/wal"
)

// lost tells whether the disk is down, or was, since the index was opened.
func (x *Index) lost() bool {
	if !x.down {
		x.down = x.disk.Down() || x.disk.Root() != x.book.File() || x.settled()
	}
	return x.down
}

// settled tells whether bytes are sure that the index has left unsure: a loss of power that is over leaves no other trace where it has kept all bytes.
func (x *Index) settled() bool {
	for _, file := range x.leaving {
		// Somebody else has opened the disk, and begun to drop them: it must not go back to what tells of them.
		if _, _, e := x.disk.Size(file); e != api.OK {
			return true
		}
	}
	// A pointing that isn't refused does no harm: the file is the root, or was up to now, and all that it tells of is there.
	return x.marked != 0 && x.disk.Point(x.marked) != api.ErrState
}

// changed answers how a change of the disk ended: nothing but room and power keeps the index from its files.
func (x *Index) changed(e api.Errno) api.Errno {
	if e == api.OK || e == api.ErrFull {
		return e
	}
	x.down = true
	return api.ErrDown
}

// drop drops a file, if it is there and isn't the root; and tells whether it was so.
func (x *Index) drop(file int) (bool, api.Errno) {
	switch e := x.disk.Drop(file); e {
	case api.OK:
		return true, api.OK
	case api.ErrNone, api.ErrState:
		return false, api.OK
	default:
		return false, x.changed(e)
	}
}

// mark adds a record to a manifest that changes nothing, and that isn't made sure; it answers the manifest's file, or 0, if there is no room.
func mark(b *manifest.Book) (int, api.Errno) {
	// No error comes: any state may be changed by no edits.
	b.Note()
	switch e := b.Lay(); e {
	case api.OK:
		return b.File(), api.OK
	case api.ErrFull:
		// Others have taken more than Room allows: it goes without.
		return 0, api.OK
	default:
		return 0, e
	}
}

// recordOf answers the record of entries that are put.
func recordOf(list []api.Entry) (string, api.Errno) {
	s, e := block.Pack(list)
	if e != api.OK {
		return "", e
	}
	if len(s) > api.MaxRecord {
		return "", api.ErrLong
	}
	return s, api.OK
}

// Put puts entries into the index, all at one moment.
func (x *Index) Put(list []api.Entry, then Then) sched.Next {
	list = slices.Clone(list)
	record, wrong := recordOf(list)
	return x.task(wrong, then, func(t *task) api.Errno {
		if len(list) > 0 {
			t.pushTurn(func() api.Errno { return t.write(list, record) })
		}
		return api.OK
	})
}

// Change puts entries that hang on what there is: they are asked for at the moment at which they are put.
func (x *Index) Change(entries func(v *View) []api.Entry, then Then) sched.Next {
	wrong := api.OK
	if entries == nil {
		wrong = api.ErrArg
	}
	return x.task(wrong, then, func(t *task) api.Errno {
		t.pushTurn(func() api.Errno {
			list := slices.Clone(entries(x.View()))
			record, e := recordOf(list)
			if e != api.OK {
				return e
			}
			return t.write(list, record)
		})
		return api.OK
	})
}

// write writes the record of entries into the log; they are put when it is sure.
func (t *task) write(list []api.Entry, record string) api.Errno {
	if len(list) == 0 {
		return api.OK
	}
	x := t.index
	// Where there is no such file any more, the writing says so.
	size, _, _ := x.disk.Size(x.log.File())
	if e := x.may(growth(size, len(wal.Frame(record)))); e != api.OK {
		return e
	}
	// No error comes: the record was held against the limit.
	x.log.Add(record)
	if e := x.changed(x.log.Write()); e != api.OK {
		x.log.Clear()
		return e
	}
	t.push(func() api.Errno {
		e := x.changed(x.log.Sync())
		if e == api.OK {
			x.keep(list)
		}
		return e
	})
	return api.OK
}

// Note changes the manifest by edits that are asked for at the moment at which they are made; the files of stores that go are retired.
func (x *Index) Note(edits func(v *View) []api.Edit, then Then) sched.Next {
	return x.task(api.OK, then, func(t *task) api.Errno {
		if edits == nil {
			return api.OK
		}
		t.pushTurn(func() api.Errno {
			list := edits(x.View())
			if len(list) == 0 {
				return api.OK
			}
			is, e := manifest.Apply(x.now.Load().state, list...)
			if e != api.OK {
				return e
			}
			return t.turnTo(is, false, func(*moment) {})
		})
		return api.OK
	})
}

// turnTo begins another manifest, of a new state; the index is so, and as done leaves it, when that manifest is the disk's. The task has the turn, and gives it back behind that. Where counted, the state tells which number the next file is to have.
func (t *task) turnTo(is api.State, counted bool, done func(next *moment)) api.Errno {
	x := t.index
	if e := x.mayBe(is, 0); e != api.OK {
		return e
	}
	file, e := x.number()
	if e != api.OK {
		return e
	}
	if counted {
		is.Next = x.last + 1
	}
	book, e := manifest.Begin(x.disk, file, is)
	if e != api.OK {
		return x.changed(e)
	}
	x.sheet = file
	was := x.now.Load().state
	t.push(
		func() api.Errno { return x.changed(book.Lay()) },
		func() api.Errno { return x.changed(book.Sync()) },
		func() api.Errno {
			if e := x.changed(book.Point()); e != api.OK {
				return e
			}
			// Up to the next mark the elder manifest bears it.
			x.book, x.sheet, x.leaving = book, x.book.File(), x.there(without(was, is))
			t.made = nil
			next := *x.now.Load()
			next.state, next.open = is, x.opened(is)
			done(&next)
			x.show(&next)
			return api.OK
		},
		func() api.Errno {
			marked, e := mark(book)
			x.marked, x.leaving = marked, nil
			return x.changed(e)
		},
		func() api.Errno {
			e := t.dropSheet()
			if e == api.OK {
				was.Logs = nil
				x.readers.Retire(without(was, is)...)
			}
			return e
		},
	)
	return api.OK
}

// without answers the files of a state that another one hasn't.
func without(was, is api.State) []int {
	here := manifest.Files(is)
	return slices.DeleteFunc(manifest.Files(was), func(file int) bool {
		_, there := slices.BinarySearch(here, file)
		return there
	})
}

// there answers those of the files that are on the disk.
func (x *Index) there(files []int) []int {
	return slices.DeleteFunc(files, func(file int) bool {
		_, _, e := x.disk.Size(file)
		return e != api.OK
	})
}
