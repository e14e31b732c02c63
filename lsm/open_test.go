package lsm_test

import (
	"fmt"
	"reflect"
	"slices"
	"strings"
	"testing"

	"silo/api"
	"silo/block"
	"silo/disk"
	"silo/lsm"
	"silo/manifest"
	"silo/table"
	"silo/wal"
)

// P15.2: what is refused, and what is told first.
func TestOpenRefused(t *testing.T) {
	bad := small
	bad.Fan = 1
	down := func() *disk.Disk {
		d := newDisk(t, 100, 0)
		d.Arm(0)
		d.Make(api.Hot, 1)
		return d
	}
	for _, x := range []struct {
		name    string
		disk    *disk.Disk
		conf    api.Conf
		readers int
		want    api.Errno
	}{
		{"a conf that may not be", newDisk(t, 100, 0), bad, 1, api.ErrArg},
		{"no readers", newDisk(t, 100, 0), small, 0, api.ErrArg},
		{"fewer readers", newDisk(t, 100, 0), small, -1, api.ErrArg},
		{"one reader", newDisk(t, 100, 0), small, 1, api.OK},
		{"all readers", newDisk(t, 100, 0), small, api.MaxTasks, api.OK},
		{"one reader too many", newDisk(t, 100, 0), small, api.MaxTasks + 1, api.ErrArg},
		{"a disk that is down", down(), small, 1, api.ErrDown},
		{"no disk", nil, small, 1, api.ErrDown},
		{"a bad conf and no power", down(), bad, 1, api.ErrArg},
		{"no readers and no power", down(), small, 0, api.ErrArg},
		{"no room", newDisk(t, 0, 0), small, 1, api.ErrFull},
		{"room in the other tier", newDisk(t, 5, 100), small, 1, api.ErrFull},
		{"room enough", newDisk(t, 100, 0), small, 1, api.OK},
	} {
		steps := x.disk.Steps()
		index, e := lsm.Open(x.disk, x.conf, x.readers)
		if e != x.want || (index == nil) != (e != api.OK) {
			t.Errorf("%s: Open = %v, %d; want %d", x.name, index, e, x.want)
		}
		if e != api.OK && x.disk.Steps() != steps {
			t.Errorf("%s: the disk was changed", x.name)
		}
	}
}

// P15.2, P15.6: there are as many slots of readers as were asked for.
func TestOpenReaders(t *testing.T) {
	for _, n := range []int{1, 5, api.MaxTasks} {
		x, e := lsm.Open(newDisk(t, 100, 0), small, n)
		wantOK(t, "Open", e)
		wantErrno(t, "Enter of the last slot", x.Epochs().Enter(n-1, x.Epochs().Now()), api.OK)
		wantErrno(t, "Enter of one more", x.Epochs().Enter(n, x.Epochs().Now()), api.ErrArg)
	}
}

// P15.2: on the least disk on which there is room for an index, it can be opened again and again, also when its power goes.
func TestOpenLeast(t *testing.T) {
	least := 0
	for hot := range 101 {
		d := newDisk(t, hot, 3)
		wantOK(t, "Make", d.Make(api.Cold, 9))
		x, e := lsm.Open(d, small, 1)
		if e == api.ErrFull && least == 0 {
			if files := d.Files(); x != nil || d.Steps() != 1 || !slices.Equal(files, []int{9}) {
				t.Fatalf("%d blocks: a refused Open has left the files %v", hot, files)
			}
			continue
		}
		wantOK(t, fmt.Sprintf("Open with %d blocks", hot), e)
		if least == 0 {
			least = hot
		}
		for i := range 200 {
			if i%3 == 0 {
				d.Back()
			}
			x = opened(t, d, small)
		}
		plain{}.want(t, "opened often", x.View())
		wantFiles(t, "opened often", x, d)
	}
	if least < 6 || least > 20 {
		t.Errorf("the least disk has %d blocks", least)
	}
}

// P15.2: files that are no part of the index are dropped, in both tiers, and ahead of the need for their room.
func TestOpenDropsOthers(t *testing.T) {
	d := newDisk(t, 100, 10)
	for n, tier := range map[int]api.Tier{1: api.Hot, 2: api.Cold, 3: api.Hot, 900: api.Cold} {
		wantOK(t, "Make", d.Make(tier, n))
		wantOK(t, "Add", d.Add(n, "others' bytes"))
		if n < 3 {
			wantOK(t, "Sync", d.Sync(n))
		}
	}
	wantOK(t, "Add", d.Add(3, text((100-d.Used(api.Hot))*64)))
	x := opened(t, d, small)
	wantFiles(t, "new", x, d)
	store, other := x.Number(), x.Number()
	for _, file := range []int{store, other} {
		wantOK(t, "Make", d.Make(api.Cold, file))
		wantOK(t, "Add", d.Add(file, "bytes"))
		wantOK(t, "Sync", d.Sync(file))
	}
	wantOK(t, "Note", note(x, addStore(store, api.Cold)))
	wantOK(t, "Put", put(x, entry("a", "1")))
	wantOK(t, "Flush", lsm.Do(x.Flush))
	wantOK(t, "Put", put(x, entry("b", "2")))
	for range 2 {
		x = opened(t, d, small)
		wantFiles(t, "opened anew", x, d)
		if s, e := d.Read(store, 0, 5); s != "bytes" || e != api.OK {
			t.Fatalf("the store has %q, %d", s, e)
		}
		if s := x.State(); !slices.Equal(s.Stores, []api.Store{{File: store, Tier: int(api.Cold)}}) {
			t.Fatalf("State = %+v", s)
		}
		plain{"a": entry("a", "1"), "b": entry("b", "2")}.want(t, "opened anew", x.View())
	}
}

// P15.2: opened again and again with nothing done between, the index is the same, and takes hardly more.
func TestOpenAgain(t *testing.T) {
	for _, puts := range []int{0, 1, 7, 40} {
		x, d := fresh(t)
		want := plain{}
		for i := range puts {
			list := []api.Entry{entry(fmt.Sprint("k", i%11), fmt.Sprint(i)), gone(fmt.Sprint("x", i))}
			wantOK(t, "Put", put(x, list...))
			want.put(list...)
			if i%4 == 3 && i < puts-3 {
				wantOK(t, "Flush", lsm.Do(x.Flush))
				lsm.Do(x.Compact)
			}
		}
		wantOK(t, "Sweep", lsm.Do(x.Sweep))
		tables, waiting, used := x.State().Tables, x.Waiting(), d.Used(api.Hot)
		for i := range 150 {
			if i%2 == 0 {
				d.Back()
			}
			x = opened(t, d, small)
			want.want(t, "opened anew", x.View())
			if s := x.State(); !reflect.DeepEqual(s.Tables, tables) || x.Waiting() != waiting {
				t.Fatalf("State = %+v, %d wait; want %+v, %d", s, x.Waiting(), tables, waiting)
			}
			if now := d.Used(api.Hot); now > used+2 {
				t.Fatalf("opened %d times: %d blocks; there were %d", i+1, now, used)
			}
			wantFiles(t, "opened anew", x, d)
		}
		// And it goes on.
		wantOK(t, "Put", put(x, entry("more", "")))
		want.put(entry("more", ""))
		wantOK(t, "Flush", lsm.Do(x.Flush))
		want.want(t, "went on", opened(t, d, small).View())
	}
}

// P15.2: another conf opens the same index.
func TestOpenOtherConf(t *testing.T) {
	x, d := fresh(t)
	want := plain{}
	for i := range 60 {
		c := api.Conf{Fan: 2 + i%15, Each: 1 + i*4, Per: 1 + i%32, Table: 1 + i%5}
		y := entry(fmt.Sprint("k", i%17), fmt.Sprint(i))
		wantOK(t, "Put", put(x, y))
		want.put(y)
		wantOK(t, "Flush", lsm.Do(x.Flush))
		lsm.Do(x.Compact)
		x = opened(t, d, c)
		want.want(t, fmt.Sprint("conf ", c), x.View())
	}
}

// turned answers a disk with the same files, all sure, as edit leaves their bytes.
func turned(t *testing.T, d *disk.Disk, edit func(file int, s string) string) *disk.Disk {
	t.Helper()
	other := newDisk(t, 1000, 100)
	for _, file := range d.Files() {
		size, tier, _ := d.Size(file)
		s, e := d.Read(file, 0, size)
		wantOK(t, "Read", e)
		wantOK(t, "Make", other.Make(tier, file))
		wantOK(t, "Add", other.Add(file, edit(file, s)))
		wantOK(t, "Sync", other.Sync(file))
	}
	wantOK(t, "Point", other.Point(d.Root()))
	return other
}

func same(_ int, s string) string { return s }

// wantCorrupt wants Open to say that this is no index's, and to leave it as it is.
func wantCorrupt(t *testing.T, name string, d *disk.Disk) {
	t.Helper()
	steps, files := d.Steps(), d.Files()
	if x, e := lsm.Open(d, small, 1); x != nil || e != api.ErrCorrupt {
		t.Fatalf("%s: Open = %v, %d; want %d", name, x, e, api.ErrCorrupt)
	}
	if d.Steps() != steps || !slices.Equal(d.Files(), files) {
		t.Fatalf("%s: the disk was changed", name)
	}
}

// filled answers an index with two tables and something in its log.
func filled(t *testing.T) (*lsm.Index, *disk.Disk, plain) {
	t.Helper()
	x, d := fresh(t)
	want := plain{}
	for i, k := range []string{"b", "d", "a", "c", "e"} {
		list := []api.Entry{entry(k, fmt.Sprint(i)), gone(k + "g")}
		wantOK(t, "Put", put(x, list...))
		want.put(list...)
		if i == 3 {
			wantOK(t, "Flush", lsm.Do(x.Flush))
		}
	}
	if s := x.State(); len(s.Tables) != 3 || len(s.Logs) != 1 || x.Waiting() != 2 {
		t.Fatalf("State = %+v, %d wait", s, x.Waiting())
	}
	return x, d, want
}

// P15.2: each byte of a table and of the manifest, and each whole frame of a log, is looked at.
func TestOpenTurned(t *testing.T) {
	x, d, want := filled(t)
	want.want(t, "nothing turned", opened(t, turned(t, d, same), small).View())
	s := x.State()
	turn := func(file, at int) *disk.Disk {
		return turned(t, d, func(n int, s string) string {
			if n == file {
				s = s[:at] + string([]byte{s[at] ^ 1}) + s[at+1:]
			}
			return s
		})
	}
	root, _, _ := d.Size(d.Root())
	mark := len(wal.Frame(manifest.Pack(nil)))
	for at := range root - mark {
		wantCorrupt(t, fmt.Sprint("the manifest's byte ", at), turn(d.Root(), at))
	}
	for _, a := range s.Tables {
		size, _, _ := d.Size(a.File)
		for at := range size {
			wantCorrupt(t, fmt.Sprintf("the byte %d of the table %d", at, a.File), turn(a.File, at))
		}
	}
	// The first byte is how many bytes there are.
	size, _, _ := d.Size(s.Logs[0])
	for at := 1; at < size; at++ {
		wantCorrupt(t, fmt.Sprint("the log's byte ", at), turn(s.Logs[0], at))
	}
}

// P15.2: what is cut off of a log, and of the mark behind the manifest, may be cut off by a loss of power; of a table it may not.
func TestOpenCut(t *testing.T) {
	x, d, want := filled(t)
	s := x.State()
	cut := func(file, size int) *disk.Disk {
		return turned(t, d, func(n int, s string) string {
			if n == file {
				s = s[:size]
			}
			return s
		})
	}
	for _, a := range s.Tables {
		size, _, _ := d.Size(a.File)
		for n := range size {
			wantCorrupt(t, fmt.Sprint("a table cut off at ", n), cut(a.File, n))
		}
	}
	without := plain{}
	for k, y := range want {
		if k != "e" && k != "eg" {
			without.put(y)
		}
	}
	size, _, _ := d.Size(s.Logs[0])
	for n := range size {
		without.want(t, fmt.Sprint("a log cut off at ", n), opened(t, cut(s.Logs[0], n), small).View())
	}
	size, _, _ = d.Size(d.Root())
	mark := len(wal.Frame(manifest.Pack(nil)))
	for n := range size {
		if n < size-mark {
			wantCorrupt(t, fmt.Sprint("a manifest cut off at ", n), cut(d.Root(), n))
		} else {
			want.want(t, fmt.Sprint("a manifest cut off at ", n), opened(t, cut(d.Root(), n), small).View())
		}
	}
}

// told answers a disk whose root tells this state, with these files.
func told(t *testing.T, s api.State, files map[int]string) *disk.Disk {
	t.Helper()
	d := newDisk(t, 1000, 100)
	for file, bytes := range files {
		wantOK(t, "Make", d.Make(api.Hot, file))
		wantOK(t, "Add", d.Add(file, bytes))
		wantOK(t, "Sync", d.Sync(file))
	}
	b, e := manifest.Begin(d, 1, s)
	wantOK(t, "Begin", e)
	wantOK(t, "Lay", b.Lay())
	wantOK(t, "Sync", b.Sync())
	wantOK(t, "Point", b.Point())
	return d
}

func pack(t *testing.T, list ...api.Entry) string {
	t.Helper()
	s, e := block.Pack(list)
	wantOK(t, "Pack", e)
	return s
}

func build(t *testing.T, list ...api.Entry) string {
	t.Helper()
	s, e := table.Build(list, 2, 8)
	wantOK(t, "Build", e)
	return s
}

// P15.2: a root that tells of what no index has written.
func TestOpenCorrupt(t *testing.T) {
	list := []api.Entry{entry("a", "1"), entry("b", "2"), gone("c")}
	a := api.Table{File: 5, Level: 1, Count: 3, Low: "a", High: "c"}
	with := func(edit func(a *api.Table)) api.State {
		b := a
		edit(&b)
		return api.State{Tables: []api.Table{b}}
	}
	right := api.State{Tables: []api.Table{a}, Logs: []int{6}}
	files := map[int]string{5: build(t, list...), 6: wal.Frame(pack(t, entry("d", "4")))}
	x := opened(t, told(t, right, files), small)
	plain{"a": entry("a", "1"), "b": entry("b", "2"), "c": gone("c"), "d": entry("d", "4")}.want(t, "right", x.View())
	for _, y := range []struct {
		name  string
		state api.State
		files map[int]string
	}{
		{"a table that isn't there", with(func(*api.Table) {}), nil},
		{"a table without bytes", with(func(*api.Table) {}), map[int]string{5: ""}},
		{"a table that is none", with(func(*api.Table) {}), map[int]string{5: strings.Repeat("x", 99)}},
		{"a table of a lesser count", with(func(a *api.Table) { a.Count = 2 }), files},
		{"a table of a greater count", with(func(a *api.Table) { a.Count = 4 }), files},
		{"a table with a lesser key", with(func(a *api.Table) { a.Low = "" }), files},
		{"a table with a greater one", with(func(a *api.Table) { a.Low = "b" }), files},
		{"a table that ends ahead", with(func(a *api.Table) { a.High = "b" }), files},
		{"a table that ends behind", with(func(a *api.Table) { a.High = "d" }), files},
		{"a table of no entries", with(func(*api.Table) {}), map[int]string{5: build(t)}},
		{"a table and more", with(func(*api.Table) {}), map[int]string{5: build(t, list...) + "x"}},
		{"a log that isn't there", api.State{Logs: []int{6}}, nil},
		{"a log whose record is none", api.State{Logs: []int{6}}, map[int]string{6: wal.Frame("x")}},
		{"a log with such a record behind", api.State{Logs: []int{6}}, map[int]string{6: files[6] + wal.Frame("")}},
		{"a log with bytes that begin no frame", api.State{Logs: []int{6}}, map[int]string{6: files[6] + "\xff"}},
		{"a log with a frame of another sum", api.State{Logs: []int{6}}, map[int]string{6: "\x41x1234"}},
		{"one of two logs that isn't there", api.State{Logs: []int{6, 7}}, files},
		{"the manifest as a log", api.State{Logs: []int{1}}, nil},
		{"the manifest as a table", with(func(a *api.Table) { a.File = 1 }), nil},
	} {
		wantCorrupt(t, y.name, told(t, y.state, y.files))
	}
	for name, s := range map[string]string{
		"a root without bytes":          "",
		"a root that is no manifest":    "whatever",
		"a root whose record is none":   wal.Frame("x"),
		"a root whose edits may not be": wal.Frame(manifest.Pack([]api.Edit{dropStore(4)})),
		"a root with more behind it":    wal.Frame(manifest.Pack(nil)) + "\xff",
		"a root with a bad frame":       wal.Frame(manifest.Pack(nil)) + "\x41x1234",
	} {
		d := newDisk(t, 100, 0)
		wantOK(t, "Make", d.Make(api.Hot, 1))
		wantOK(t, "Add", d.Add(1, s))
		wantOK(t, "Sync", d.Sync(1))
		wantOK(t, "Point", d.Point(1))
		wantCorrupt(t, name, d)
	}
}

// P15.2: a table whose blocks don't rise is no index's, were each of them right by itself.
func TestOpenFallingTable(t *testing.T) {
	first, second := []api.Entry{entry("a", "1"), entry("d", "2")}, []api.Entry{entry("c", "3"), entry("e", "4")}
	right := build(t, entry("a", "1"), entry("b", "2"), entry("c", "3"), entry("d", "4"))
	// The index, the filter and the foot stay as they are.
	blocks := pack(t, first...) + pack(t, second...)
	wrong := blocks + right[len(blocks):]
	r, e := table.Open(len(wrong), func(at, size int) (string, api.Errno) { return wrong[at : at+size], api.OK })
	wantOK(t, "table.Open", e)
	var list []api.Entry
	for y, e := range r.Scan("") {
		wantOK(t, "Scan", e)
		list = append(list, y)
	}
	if !slices.Equal(list, slices.Concat(first, second)) {
		t.Fatalf("the table has %v", list)
	}
	s := api.State{Tables: []api.Table{{File: 5, Count: 4, Low: "a", High: "e"}}}
	wantCorrupt(t, "blocks that don't rise", told(t, s, map[int]string{5: wrong}))
}

// P15.2: on a disk with an index, but with less room than that has had, Open says so, and changes nothing.
func TestOpenWithoutRoom(t *testing.T) {
	x, d, want := filled(t)
	full, opens := false, false
	for hot := d.Used(api.Hot); hot < d.Used(api.Hot)+10; hot++ {
		other, _ := disk.New(hot, 100)
		for _, file := range d.Files() {
			size, tier, _ := d.Size(file)
			s, _ := d.Read(file, 0, size)
			wantOK(t, "Make", other.Make(tier, file))
			wantOK(t, "Add", other.Add(file, s))
			wantOK(t, "Sync", other.Sync(file))
		}
		wantOK(t, "Point", other.Point(d.Root()))
		steps := other.Steps()
		y, e := lsm.Open(other, small, 2)
		switch e {
		case api.OK:
			opens = true
			want.want(t, "opened", y.View())
		case api.ErrFull:
			full = true
			if opens || y != nil || other.Steps() != steps {
				t.Fatalf("%d blocks: Open = %d behind %d changes", hot, e, other.Steps()-steps)
			}
		default:
			t.Fatalf("%d blocks: Open = %d", hot, e)
		}
	}
	if !full || !opens {
		t.Fatalf("full %t, opens %t", full, opens)
	}
	want.want(t, "as it was", x.View())
}
