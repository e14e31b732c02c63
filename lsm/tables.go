package lsm

import (
	"slices"

	"silo/api"
	"silo/levels"
	"silo/manifest"
	"silo/mem"
	"silo/merge"
	"silo/sched"
	"silo/table"
	"silo/wal"
)

// draft is a table that isn't part of the index yet.
type draft struct {
	table api.Table // its file is known only when it is made
	text  string
}

// build answers tables of a level with these entries, which were put, or were read of tables.
func (x *Index) build(list []api.Entry, level int) []draft {
	var drafts []draft
	for part := range slices.Chunk(list, x.conf.Table) {
		// No error comes: such entries were checked.
		text, _ := table.Build(part, x.conf.Each, x.conf.Per)
		t := api.Table{Level: level, Count: len(part), Low: part[0].Key, High: part[len(part)-1].Key}
		drafts = append(drafts, draft{table: t, text: text})
	}
	return drafts
}

// mayAdd answers whether there is room for the tables, in place of those of some files, and for so many blocks more.
func (x *Index) mayAdd(drafts []draft, gone []int, more int) api.Errno {
	s := x.State()
	s.Tables = slices.DeleteFunc(s.Tables, func(t api.Table) bool { return slices.Contains(gone, t.File) })
	for _, d := range drafts {
		more += blocks(len(d.text))
		d.table.File = x.last
		s.Tables = append(s.Tables, d.table)
	}
	return x.mayBe(s, more)
}

// pushTables puts the writing of the tables behind the pieces that are left.
func (t *task) pushTables(drafts []draft) {
	x := t.index
	for i := range drafts {
		d := &drafts[i]
		t.push(
			func() api.Errno { return t.makeTable(d) },
			func() api.Errno {
				if e := x.may(growth(0, len(d.text))); e != api.OK {
					return e
				}
				return x.changed(x.disk.Add(d.table.File, d.text))
			},
			func() api.Errno { return x.changed(x.disk.Sync(d.table.File)) },
		)
	}
}

// makeTable makes a table's file, if there is room for all of it.
func (t *task) makeTable(d *draft) api.Errno {
	x := t.index
	if e := x.may(blocks(len(d.text))); e != api.OK {
		return e
	}
	file, e := x.number()
	if e != api.OK {
		return e
	}
	if e := x.changed(x.disk.Make(api.Hot, file)); e != api.OK {
		return e
	}
	d.table.File = file
	t.made = append(t.made, file)
	return api.OK
}

// turnToTables begins the manifest that tells of the tables, and of what else the edits ahead of them change.
func (t *task) turnToTables(edits []api.Edit, drafts []draft, done func(next *moment)) api.Errno {
	for _, d := range drafts {
		a := d.table
		edits = append(edits, api.Edit{Kind: api.AddTable, File: a.File, Level: a.Level, Count: a.Count, Low: a.Low, High: a.High})
	}
	is, e := manifest.Apply(t.index.now.Load().state, edits...)
	if e != api.OK {
		return e
	}
	return t.turnTo(is, true, done)
}

// opened answers the tables of a state, open: those that are open already, and the others.
func (x *Index) opened(s api.State) map[int]*table.Table {
	before := x.now.Load().open
	open := map[int]*table.Table{}
	for _, a := range s.Tables {
		t := before[a.File]
		if t == nil {
			// Of one that can't be opened a view says so.
			t, _ = openTable(x.disk, a.File)
		}
		open[a.File] = t
	}
	return open
}

// Flush writes what stands in the memory alone into tables of the first level.
func (x *Index) Flush(then Then) sched.Next {
	return x.task(api.OK, then, func(t *task) api.Errno {
		if x.flushing {
			return api.ErrState
		}
		list, puts := x.now.Load().entries(), x.puts
		if len(list) == 0 {
			return api.OK
		}
		drafts := x.build(list, 0)
		if e := x.mayAdd(drafts, nil, blocks(0)); e != api.OK {
			return e
		}
		x.flushing = true
		t.over = func() { x.flushing = false }
		t.pushTables(drafts)
		t.pushTurn(func() api.Errno { return t.renew(drafts, puts) })
		return api.OK
	})
}

// records answers the records of a memory's entries, one for each, and how many bytes they have in a log.
func records(memory mem.Map[held]) (list []string, size int) {
	for _, h := range memory.From("") {
		// No error comes: the entry was put, and one alone is far shorter than a record may be.
		record, _ := recordOf([]api.Entry{h.entry})
		list = append(list, record)
		size += len(wal.Frame(record))
	}
	return list, size
}

// renew begins a log of what was put while tables were written, and then turns to it and to the tables.
func (t *task) renew(drafts []draft, puts int) api.Errno {
	x := t.index
	memory := x.now.Load().since(puts)
	list, size := records(memory)
	if e := x.may(blocks(size)); e != api.OK {
		return e
	}
	file, e := x.number()
	if e != api.OK {
		return e
	}
	log, e := wal.Begin(x.disk, api.Hot, file)
	if e != api.OK {
		return x.changed(e)
	}
	t.made = append(t.made, file)
	for _, record := range list {
		log.Add(record)
	}
	t.push(
		func() api.Errno { return x.changed(log.Write()) },
		func() api.Errno { return x.changed(log.Sync()) },
		func() api.Errno { return t.turnToLog(log, drafts, memory) },
	)
	return api.OK
}

// turnToLog turns to the tables, and to a log in place of all that there are, in which all of this memory stands.
func (t *task) turnToLog(log *wal.Log, drafts []draft, memory mem.Map[held]) api.Errno {
	x := t.index
	old := x.State().Logs
	edits := []api.Edit{{Kind: api.AddLog, File: log.File()}}
	for _, file := range old {
		edits = append(edits, api.Edit{Kind: api.DropLog, File: file})
	}
	e := t.turnToTables(edits, drafts, func(next *moment) {
		next.memory = memory
		x.log = log
	})
	if e == api.OK {
		t.pushDrops(old)
	}
	return e
}

// Compact merges the tables that are to be merged next.
func (x *Index) Compact(then Then) sched.Next {
	return x.task(api.OK, then, func(t *task) api.Errno {
		if x.compacting {
			return api.ErrState
		}
		p, ok := levels.Pick(x.now.Load().state.Tables, x.conf.Fan)
		if !ok {
			return api.ErrNone
		}
		list, e := x.View().merged(p.In)
		if e != api.OK {
			return e
		}
		drafts := x.build(list, p.Out)
		if e := x.mayAdd(drafts, p.In, 0); e != api.OK {
			return e
		}
		x.compacting = true
		t.over = func() { x.compacting = false }
		t.pushTables(drafts)
		t.pushTurn(func() api.Errno {
			var edits []api.Edit
			for _, file := range p.In {
				edits = append(edits, api.Edit{Kind: api.DropTable, File: file})
			}
			return t.turnToTables(edits, drafts, func(*moment) {})
		})
		return api.OK
	})
}

// merged answers the entries of tables, of which the newer ones stand ahead. What is gone stays told: it is what was put last at its key, and merging changes no entry.
func (v *View) merged(files []int) ([]api.Entry, api.Errno) {
	var rows []*merge.Cursor
	for _, file := range files {
		rows = append(rows, merge.From(v.walk("", file)))
	}
	var list []api.Entry
	for y, e := range merge.All(merge.Merge(rows...)) {
		if e != api.OK {
			return nil, told(e)
		}
		list = append(list, y)
	}
	return list, api.OK
}

// Sweep drops the files that were retired, and that nobody can look at any more.
func (x *Index) Sweep(then Then) sched.Next {
	return x.task(api.OK, then, func(t *task) api.Errno {
		// They stay with the index up to their dropping, as the book has them no more.
		x.doomed = append(x.doomed, x.readers.Free()...)
		return t.sweep()
	})
}

// sweep drops the next file that is there and that the state hasn't got again, and goes on with the others in the next step.
func (t *task) sweep() api.Errno {
	x := t.index
	for len(x.doomed) > 0 {
		file := x.doomed[0]
		x.doomed = x.doomed[1:]
		if slices.Contains(manifest.Files(x.now.Load().state), file) {
			continue
		}
		dropped, e := x.drop(file)
		if e != api.OK {
			return e
		}
		if dropped {
			t.push(t.sweep)
			break
		}
	}
	return api.OK
}
