package lsm

import (
	"silo/api"
	"silo/disk"
	"silo/levels"
	"silo/mem"
	"silo/merge"
	"silo/table"
)

// walker tells entries one by one; behind the last one, and with an error, nothing.
type walker func() (api.Entry, bool, api.Errno)

// moment is what an index is at a moment. It never changes.
type moment struct {
	memory mem.Map[held] // hides what the tables have
	state  api.State
	open   map[int]*table.Table // the state's tables, by their files, but for those that aren't what they should be
}

// held is an entry of the memory, and with which putting it came: 0 where it was there when the index was opened.
type held struct {
	entry api.Entry
	put   int
}

// entries answers the memory's entries, by rising keys.
func (m *moment) entries() []api.Entry {
	var list []api.Entry
	for _, h := range m.memory.From("") {
		list = append(list, h.entry)
	}
	return list
}

// since answers the part of the memory that was put behind so many puttings.
func (m *moment) since(puts int) mem.Map[held] {
	var part mem.Map[held]
	for key, h := range m.memory.From("") {
		if h.put > puts {
			part = part.Put(key, h)
		}
	}
	return part
}

// openTable opens the table in a file.
func openTable(d *disk.Disk, file int) (*table.Table, api.Errno) {
	size, _, e := d.Size(file)
	if e != api.OK {
		return nil, e
	}
	return table.Open(size, func(at, size int) (string, api.Errno) { return d.Read(file, at, size) })
}

// View is the index at a moment.
type View struct {
	disk  *disk.Disk
	at    *moment
	reads int
}

// told answers how a reading ended that was begun with power: what it doesn't tell are bytes that aren't those that were written.
func told(e api.Errno) api.Errno {
	if e != api.OK {
		return api.ErrCorrupt
	}
	return api.OK
}

// Get answers the entry of a key, also one that is gone.
func (v *View) Get(key string) (api.Entry, bool, api.Errno) {
	if v.disk.Down() {
		return api.Entry{}, false, api.ErrDown
	}
	if h, ok := v.at.memory.Get(key); ok {
		return h.entry, true, api.OK
	}
	for _, file := range levels.Find(v.at.state.Tables, key) {
		y, ok, e := v.read(file, func(t *table.Table) (api.Entry, bool, api.Errno) { return t.Get(key) })
		if ok || e != api.OK {
			return y, ok, told(e)
		}
	}
	return api.Entry{}, false, api.OK
}

// read asks the table in a file for an entry, and counts the blocks that are read for it.
func (v *View) read(file int, ask func(*table.Table) (api.Entry, bool, api.Errno)) (api.Entry, bool, api.Errno) {
	t := v.at.open[file]
	if t == nil {
		return api.Entry{}, false, api.ErrCorrupt
	}
	// Views share their tables, so that what a table counts isn't what this view has read.
	before := t.Reads()
	y, ok, e := ask(t)
	v.reads += t.Reads() - before
	return y, ok, e
}

// Scan answers a cursor over the entries that aren't gone, from the key on.
func (v *View) Scan(key string) *merge.Cursor {
	live := merge.Live(merge.Merge(v.rows(key)...))
	return merge.From(func() (api.Entry, bool, api.Errno) {
		if v.disk.Down() {
			return api.Entry{}, false, api.ErrDown
		}
		y, ok, e := live.Next()
		return y, ok, told(e)
	})
}

// rows answers cursors over all entries from the key on, the newer ones ahead.
func (v *View) rows(key string) []*merge.Cursor {
	rows := []*merge.Cursor{merge.From(v.walkMemory(key))}
	deep := make([][]int, api.MaxLevels)
	for _, t := range v.at.state.Tables {
		switch {
		case t.High < key:
		case t.Level == 0:
			rows = append(rows, merge.From(v.walk(key, t.File)))
		default:
			deep[t.Level] = append(deep[t.Level], t.File)
		}
	}
	for _, files := range deep {
		rows = append(rows, merge.From(v.walk(key, files...)))
	}
	return rows
}

// walkMemory tells the memory's entries from the key on.
func (v *View) walkMemory(key string) walker {
	walk := v.at.memory.Walk(key)
	return func() (api.Entry, bool, api.Errno) {
		_, h, ok := walk()
		return h.entry, ok, api.OK
	}
}

// walk tells the entries from the key on of tables whose keys rise from one to the next; a table isn't read until the one ahead is told.
func (v *View) walk(key string, files ...int) walker {
	var here walker // over the first one of the files, once it was begun
	return func() (api.Entry, bool, api.Errno) {
		for len(files) > 0 {
			y, ok, e := v.read(files[0], func(t *table.Table) (api.Entry, bool, api.Errno) {
				if here == nil {
					here = t.Walk(key)
				}
				return here()
			})
			if ok || e != api.OK {
				return y, ok, e
			}
			here, files = nil, files[1:]
		}
		return api.Entry{}, false, api.OK
	}
}

// Reads answers how many blocks of tables were read.
func (v *View) Reads() int { return v.reads }
