package lsm

import (
	"math"
	"slices"

	"silo/api"
	"silo/block"
	"silo/disk"
	"silo/epoch"
	"silo/manifest"
	"silo/mem"
	"silo/sched"
	"silo/six"
	"silo/table"
	"silo/wal"
)

// sumBytes is how many bytes the sum of a log's frame has, which stand behind its record.
const sumBytes = 4

// opening is an index that is being opened.
type opening struct {
	index *Index
	root  int       // the manifest that is the disk's; 0: the index is a new one
	was   api.State // what that tells
	is    api.State // what the next one is to tell
	file  int       // of the next one
	fresh int       // of the next log
	empty []int     // logs without records, which go
	first moment    // what the index is
}

// Open opens the index that is on a disk, or begins one; for so many readers.
func Open(d *disk.Disk, c api.Conf, readers int) (*Index, api.Errno) {
	if e := Check(c); e != api.OK {
		return nil, e
	}
	book, e := epoch.New[int](readers)
	if e != api.OK {
		return nil, e
	}
	if d.Down() {
		return nil, api.ErrDown
	}
	x := &Index{disk: d, conf: c, readers: book, turn: sched.NewMutex()}
	o := &opening{index: x, root: d.Root()}
	// All that may be refused is looked at ahead of the first change; and each change leaves what can be opened anew.
	for _, do := range []func(*opening) api.Errno{
		(*opening).load, (*opening).replay, (*opening).openTables, (*opening).plan, (*opening).room,
		(*opening).clean, (*opening).settle, (*opening).beginLog, (*opening).beginBook, (*opening).leave,
	} {
		if e := do(o); e != api.OK {
			return nil, e
		}
	}
	return x, api.OK
}

// load reads the manifest.
func (o *opening) load() api.Errno {
	if o.root == 0 {
		return api.OK
	}
	s, e := manifest.Load(o.index.disk)
	if e != api.OK {
		return api.ErrCorrupt
	}
	o.was = s
	_, e = o.records(o.root)
	return e
}

// records answers the records of a log of which a loss of power may have left the beginning alone.
func (o *opening) records(file int) ([]string, api.Errno) {
	d := o.index.disk
	// Where there is no such file, the reading says so.
	size, _, _ := d.Size(file)
	s, e := d.Read(file, 0, size)
	if e != api.OK {
		return nil, api.ErrCorrupt
	}
	records, n := wal.Split(s)
	if !isCut(s[n:]) {
		return nil, api.ErrCorrupt
	}
	return records, api.OK
}

// isCut tells whether bytes may be the beginning of a frame, but not all of it.
func isCut(s string) bool {
	r := six.Over(s)
	_, e := r.Text()
	if e == api.OK {
		_, e = r.Raw(sumBytes)
	}
	return e == api.ErrShort
}

// replay reads the logs.
func (o *opening) replay() api.Errno {
	var memory mem.Map[held]
	for _, file := range o.was.Logs {
		records, e := o.records(file)
		if e != api.OK {
			return e
		}
		if len(records) == 0 {
			o.empty = append(o.empty, file)
		}
		for _, record := range records {
			list, e := block.Open(record)
			if e != api.OK {
				return api.ErrCorrupt
			}
			for _, y := range list {
				memory = memory.Put(y.Key, held{entry: y})
			}
		}
	}
	o.first.memory = memory
	return api.OK
}

// openTables opens the tables, and reads all of them.
func (o *opening) openTables() api.Errno {
	o.first.open = map[int]*table.Table{}
	for _, a := range o.was.Tables {
		t, e := openTable(o.index.disk, a.File)
		if e != api.OK || !isTable(t, a) {
			return api.ErrCorrupt
		}
		o.first.open[a.File] = t
	}
	return api.OK
}

// isTable tells whether a table is what a state tells of it.
func isTable(t *table.Table, a api.Table) bool {
	var keys []string
	for y, e := range t.Scan("") {
		if e != api.OK || len(keys) > 0 && y.Key <= keys[len(keys)-1] {
			return false
		}
		keys = append(keys, y.Key)
	}
	return len(keys) == a.Count && t.Count() == a.Count && keys[0] == a.Low && keys[len(keys)-1] == a.High
}

// plan finds numbers for the files that are to be made, and the state that there is to be.
func (o *opening) plan() api.Errno {
	used := append(o.index.disk.Files(), manifest.Files(o.was)...)
	o.fresh = unused(used)
	o.file = unused(append(used, o.fresh))
	edits := []api.Edit{{Kind: api.AddLog, File: o.fresh}}
	for _, file := range o.empty {
		edits = append(edits, api.Edit{Kind: api.DropLog, File: file})
	}
	// No error comes: these logs are there, and the new one has a number that nothing has.
	o.is, _ = manifest.Apply(o.was, edits...)
	if last := max(lastOf(o.is), o.file); last < math.MaxInt {
		o.is.Next = last + 1
	}
	return api.OK
}

// unused answers the least number of a file that isn't among these.
func unused(files []int) int {
	n := 1
	for _, file := range slices.Sorted(slices.Values(files)) {
		if file == n {
			n++
		}
	}
	return n
}

// room tells whether there is room, behind the going of what is no part of the index.
func (o *opening) room() api.Errno {
	d := o.index.disk
	sheet, ok := sheetBlocks(manifest.Whole(o.is))
	if !ok {
		return api.ErrFull
	}
	n := sheet
	if o.root == 0 {
		// A new index must have room to be opened again. One that was opened has, and what the next opening needs is freed by this one.
		n, _ = needOf(o.is)
	}
	n += blocks(0)
	for _, file := range append(manifest.Files(o.was), o.root) {
		if size, t, e := d.Size(file); e == api.OK && t == api.Hot {
			n += blocks(size)
		}
	}
	if n > d.Room(api.Hot) {
		return api.ErrFull
	}
	return api.OK
}

// clean drops the files that are no part of the index.
func (o *opening) clean() api.Errno {
	x := o.index
	part := append(manifest.Files(o.was), o.root)
	for _, file := range x.disk.Files() {
		if slices.Contains(part, file) {
			continue
		}
		if e := x.changed(x.disk.Drop(file)); e != api.OK {
			return e
		}
	}
	return api.OK
}

// settle makes sure what the logs have told: no power need have been lost since it was written.
func (o *opening) settle() api.Errno {
	x := o.index
	for _, file := range o.was.Logs {
		if e := x.changed(x.disk.Sync(file)); e != api.OK {
			return e
		}
	}
	return api.OK
}

// beginLog begins the next log.
func (o *opening) beginLog() api.Errno {
	x := o.index
	log, e := wal.Begin(x.disk, api.Hot, o.fresh)
	if e != api.OK {
		return x.changed(e)
	}
	x.log = log
	return x.changed(log.Sync())
}

// beginBook begins the next manifest, and makes it the disk's.
func (o *opening) beginBook() api.Errno {
	x := o.index
	book, e := manifest.Begin(x.disk, o.file, o.is)
	if e != api.OK {
		return x.changed(e)
	}
	for _, do := range []func() api.Errno{book.Lay, book.Sync, book.Point} {
		if e := x.changed(do()); e != api.OK {
			return e
		}
	}
	x.book = book
	return api.OK
}

// leave drops what the opening has replaced, and shows the index.
func (o *opening) leave() api.Errno {
	x := o.index
	for _, file := range append(o.empty, o.root) {
		if _, e := x.drop(file); e != api.OK {
			return e
		}
	}
	marked, e := mark(x.book)
	if e != api.OK {
		return x.changed(e)
	}
	x.marked = marked
	o.first.state = o.is
	x.now = sched.NewCell(&o.first)
	x.show(&o.first)
	return api.OK
}
