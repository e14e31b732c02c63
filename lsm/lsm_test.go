package lsm_test

import (
	"fmt"
	"maps"
	"math"
	"reflect"
	"slices"
	"testing"

	"silo/api"
	"silo/disk"
	"silo/lsm"
	"silo/manifest"
	"silo/sched"
)

var small = api.Conf{Fan: 2, Each: 2, Per: 8, Table: 3}

func entry(key, val string) api.Entry { return api.Entry{Key: key, Val: val} }

func gone(key string) api.Entry { return api.Entry{Key: key, Gone: true} }

func text(n int) string { return string(make([]byte, n)) }

func newDisk(t *testing.T, hot, cold int) *disk.Disk {
	t.Helper()
	d, e := disk.New(hot, cold)
	wantOK(t, "disk.New", e)
	return d
}

func opened(t *testing.T, d *disk.Disk, c api.Conf) *lsm.Index {
	t.Helper()
	x, e := lsm.Open(d, c, 2)
	if e != api.OK || x == nil {
		t.Fatalf("Open = %v, %d", x, e)
	}
	return x
}

// fresh answers a new index on a disk of its own.
func fresh(t *testing.T) (*lsm.Index, *disk.Disk) {
	t.Helper()
	d := newDisk(t, 1000, 100)
	return opened(t, d, small), d
}

func put(x *lsm.Index, list ...api.Entry) api.Errno {
	return lsm.Do(func(then lsm.Then) sched.Next { return x.Put(list, then) })
}

func change(x *lsm.Index, entries func(*lsm.View) []api.Entry) api.Errno {
	return lsm.Do(func(then lsm.Then) sched.Next { return x.Change(entries, then) })
}

func note(x *lsm.Index, edits ...api.Edit) api.Errno {
	return lsm.Do(func(then lsm.Then) sched.Next {
		return x.Note(func(*lsm.View) []api.Edit { return edits }, then)
	})
}

func addStore(file int, t api.Tier) api.Edit {
	return api.Edit{Kind: api.AddStore, File: file, Level: int(t)}
}

func dropStore(file int) api.Edit { return api.Edit{Kind: api.DropStore, File: file} }

func wantErrno(t *testing.T, name string, got, want api.Errno) {
	t.Helper()
	if got != want {
		t.Fatalf("%s = %d; want %d", name, got, want)
	}
}

func wantOK(t *testing.T, name string, got api.Errno) {
	t.Helper()
	wantErrno(t, name, got, api.OK)
}

// allTasks answers each kind of a task, such as it does something where there is something to do.
func allTasks(x *lsm.Index) map[string]func(lsm.Then) sched.Next {
	return map[string]func(lsm.Then) sched.Next{
		"Put":         func(then lsm.Then) sched.Next { return x.Put([]api.Entry{entry("z", "9")}, then) },
		"Put of none": func(then lsm.Then) sched.Next { return x.Put(nil, then) },
		"Change": func(then lsm.Then) sched.Next {
			return x.Change(func(*lsm.View) []api.Entry { return []api.Entry{entry("y", "8")} }, then)
		},
		"Flush":   x.Flush,
		"Compact": x.Compact,
		"Note": func(then lsm.Then) sched.Next {
			return x.Note(func(*lsm.View) []api.Edit { return []api.Edit{addStore(7777, api.Cold)} }, then)
		},
		"Note of nil": func(then lsm.Then) sched.Next { return x.Note(nil, then) },
		"Sweep":       x.Sweep,
	}
}

// wantDown wants each task to say that the power is gone, or was.
func wantDown(t *testing.T, name string, x *lsm.Index) {
	t.Helper()
	for kind, task := range allTasks(x) {
		wantErrno(t, name+": "+kind, lsm.Do(task), api.ErrDown)
	}
}

// plain is what was put last at each key.
type plain map[string]api.Entry

func (p plain) put(list ...api.Entry) {
	for _, y := range list {
		p[y.Key] = y
	}
}

// live answers the entries that aren't gone, from the key on.
func (p plain) live(key string) []api.Entry {
	var list []api.Entry
	for _, k := range slices.Sorted(maps.Keys(p)) {
		if k >= key && !p[k].Gone {
			list = append(list, p[k])
		}
	}
	return list
}

func scan(t *testing.T, v *lsm.View, key string) []api.Entry {
	t.Helper()
	var list []api.Entry
	c := v.Scan(key)
	for {
		y, ok, e := c.Next()
		wantOK(t, "Scan", e)
		if !ok {
			return list
		}
		list = append(list, y)
	}
}

// want wants the view to have just these entries.
func (p plain) want(t *testing.T, name string, v *lsm.View) {
	t.Helper()
	keys := slices.Sorted(maps.Keys(p))
	from := []string{""}
	if len(keys) > 0 {
		from = append(from, keys[len(keys)/2], keys[len(keys)/2]+"\x00")
	}
	for _, key := range from {
		if got, want := scan(t, v, key), p.live(key); !slices.Equal(got, want) {
			t.Fatalf("%s: Scan(%q) = %v; want %v", name, key, got, want)
		}
	}
	for _, key := range keys {
		wantGet(t, name, v, key, p[key], true)
		if _, there := p[key+"\x00"]; !there {
			wantGet(t, name, v, key+"\x00", api.Entry{}, false)
		}
	}
}

func wantGet(t *testing.T, name string, v *lsm.View, key string, want api.Entry, there bool) {
	t.Helper()
	if y, ok, e := v.Get(key); y != want || ok != there || e != api.OK {
		t.Fatalf("%s: Get(%q) = %v, %t, %d; want %v, %t", name, key, y, ok, e, want, there)
	}
}

// noFile is the number from which on the tests' stores have no files.
const noFile = 7000

// wantFiles wants the disk to have just the files of the state and its root.
func wantFiles(t *testing.T, name string, x *lsm.Index, d *disk.Disk) {
	t.Helper()
	want := append(manifest.Files(x.State()), d.Root())
	slices.Sort(want)
	want = slices.DeleteFunc(want, func(file int) bool {
		return slices.ContainsFunc(x.State().Stores, func(s api.Store) bool { return s.File == file && file >= noFile })
	})
	if got := d.Files(); !slices.Equal(got, want) {
		t.Fatalf("%s: the disk has the files %v; want %v", name, got, want)
	}
}

// seen is what a refused call must not change.
type seen struct {
	state       api.State
	files       []int
	used, steps int
	waiting     int
	held        int
}

func see(x *lsm.Index, d *disk.Disk) seen {
	return seen{x.State(), d.Files(), d.Used(api.Hot), d.Steps(), x.Waiting(), x.Epochs().Held()}
}

func (s seen) want(t *testing.T, name string, x *lsm.Index, d *disk.Disk) {
	t.Helper()
	if now := see(x, d); !reflect.DeepEqual(now, s) {
		t.Fatalf("%s: there is %+v; want %+v", name, now, s)
	}
}

// P15.1
func TestCheck(t *testing.T) {
	fields := []struct {
		name        string
		least, most int
		set         func(c *api.Conf, n int)
	}{
		{"Fan", 2, 16, func(c *api.Conf, n int) { c.Fan = n }},
		{"Each", 1, 256, func(c *api.Conf, n int) { c.Each = n }},
		{"Per", 1, 32, func(c *api.Conf, n int) { c.Per = n }},
		{"Table", 1, 4096, func(c *api.Conf, n int) { c.Table = n }},
	}
	for _, f := range fields {
		for _, n := range []int{math.MinInt, -1, 0, 1, 2, 3, f.least - 1, f.least, f.most, f.most + 1, math.MaxInt} {
			for _, other := range []int{math.MinInt, -1, 0, 7, math.MaxInt} {
				c := api.Conf{Hot: other, Cold: other, Flush: other, Box: other, Least: other, Mean: other, Most: other, Seed: other, Fan: 3, Each: 4, Per: 5, Table: 6}
				f.set(&c, n)
				want := api.ErrArg
				if f.least <= n && n <= f.most {
					want = api.OK
				}
				wantErrno(t, fmt.Sprintf("Check of %s %d, others %d", f.name, n, other), lsm.Check(c), want)
				x, e := lsm.Open(newDisk(t, 100, 0), c, 1)
				if e != want || (x != nil) != (want == api.OK) {
					t.Fatalf("Open with %s %d = %v, %d; want %d", f.name, n, x, e, want)
				}
			}
		}
	}
}

// P15.3, P15.4, P15.8: the chapter's example.
func TestExample(t *testing.T) {
	d := newDisk(t, 100, 0)
	x := opened(t, d, small)
	wantOK(t, "Put", put(x, entry("a", "1"), entry("b", "2")))
	wantOK(t, "Put", put(x, gone("a")))
	want := plain{"a": gone("a"), "b": entry("b", "2")}
	want.want(t, "put", x.View())
	wantOK(t, "Flush", lsm.Do(x.Flush))
	want.want(t, "flushed", x.View())
	want.want(t, "opened anew", opened(t, d, small).View())
}

// P15.5
func TestState(t *testing.T) {
	x, d := fresh(t)
	for i := range 9 {
		wantOK(t, "Put", put(x, entry(fmt.Sprint(i), "v")))
		wantOK(t, "Flush", lsm.Do(x.Flush))
		wantOK(t, "Note", note(x, addStore(x.Number(), api.Cold)))
		loaded, e := manifest.Load(d)
		if got := x.State(); e != api.OK || !reflect.DeepEqual(got, loaded) {
			t.Fatalf("State = %+v; the disk tells %+v, %d", got, loaded, e)
		}
	}
	s := x.State()
	if len(s.Tables) != 9 || len(s.Stores) != 9 || len(s.Logs) != 1 {
		t.Fatalf("State = %+v", s)
	}
	// What is written into an answer, and behind it, nobody else sees.
	before := fmt.Sprint(s)
	for i := range s.Tables {
		s.Tables[i].File = 1
	}
	for i := range s.Stores {
		s.Stores[i].File = 1
	}
	s.Logs[0] = 1
	_ = append(s.Tables[:1], api.Table{File: 1})
	if now := fmt.Sprint(x.State()); now != before {
		t.Fatalf("State = %s; want %s", now, before)
	}
}

// P15.5: the state's next number is no file's, and stands behind those of the state; none that Number answers is below it.
func TestNext(t *testing.T) {
	x, d := fresh(t)
	want := func(name string) {
		t.Helper()
		s := x.State()
		if s.Next <= slices.Max(append(manifest.Files(s), d.Root())) {
			t.Fatalf("%s: the next number is %d; the disk has %v", name, s.Next, d.Files())
		}
		if n := x.Number(); n < s.Next {
			t.Fatalf("%s: Number = %d; the state has %d", name, n, s.Next)
		}
	}
	want("new")
	for i := range 9 {
		wantOK(t, "Put", put(x, entry(fmt.Sprint(i), "v")))
		wantOK(t, "Flush", lsm.Do(x.Flush))
		want("flushed")
		if lsm.Do(x.Compact) == api.OK {
			want("merged")
		}
		if i%3 == 2 {
			x = opened(t, d, small)
			want("opened anew")
		}
	}
}

// P15.5: no number comes twice, or is that of a file, or isn't above those of the state.
func TestNumber(t *testing.T) {
	x, d := fresh(t)
	numbers := map[int]bool{}
	last := 0
	next := func(name string) int {
		t.Helper()
		n := x.Number()
		if n <= last || numbers[n] || slices.Contains(d.Files(), n) || n <= slices.Max(manifest.Files(x.State())) {
			t.Fatalf("%s: Number = %d behind %d; the disk has %v", name, n, last, d.Files())
		}
		numbers[n], last = true, n
		return n
	}
	next("new")
	next("new")
	for i := range 8 {
		wantOK(t, "Put", put(x, entry(fmt.Sprint(i), "")))
		next("put")
		wantOK(t, "Flush", lsm.Do(x.Flush))
		for _, file := range d.Files() {
			if numbers[file] {
				t.Fatalf("the index has taken the number %d", file)
			}
		}
		next("flushed")
		lsm.Do(x.Compact)
		next("merged")
		wantOK(t, "Sweep", lsm.Do(x.Sweep))
		next("swept")
	}
	wantOK(t, "Make", d.Make(api.Cold, last+1))
	if n := next("a file of others"); n == last {
		next("more")
	}
	wantOK(t, "Note", note(x, addStore(5000, api.Hot)))
	if n := next("a store with a great number"); n <= 5000 {
		t.Fatalf("Number = %d behind a store 5000", n)
	}
	wantOK(t, "Note", note(x, api.Edit{Kind: api.SetNext, File: 7000}))
	if n := next("a great next number"); n < 7000 {
		t.Fatalf("Number = %d where the state has 7000", n)
	}
	d.Back()
	x, numbers, last = opened(t, d, small), map[int]bool{}, 0
	if n := next("opened anew"); n < 7000 {
		t.Fatalf("Number = %d where the state has 7000", n)
	}
}

// P15.5: where the state has the greatest number of all, there is none above it; nothing but new tables needs one.
func TestNoNumber(t *testing.T) {
	x, d := fresh(t)
	wantOK(t, "Put", put(x, entry("a", "1")))
	wantOK(t, "Note", note(x, addStore(math.MaxInt, api.Cold)))
	for range 3 {
		if n := x.Number(); n != 0 {
			t.Fatalf("Number = %d", n)
		}
		before := see(x, d)
		wantErrno(t, "Flush", lsm.Do(x.Flush), api.ErrFull)
		wantErrno(t, "Note", note(x, dropStore(math.MaxInt)), api.ErrFull)
		before.want(t, "refused", x, d)
		wantOK(t, "Put", put(x, entry("b", "2")))
		plain{"a": entry("a", "1"), "b": entry("b", "2")}.want(t, "no numbers", x.View())
		x = opened(t, d, small)
	}
	// A file that nobody has told of plays no part.
	x, d = fresh(t)
	wantOK(t, "Make", d.Make(api.Hot, math.MaxInt))
	wantOK(t, "Put", put(x, entry("a", "1")))
	wantOK(t, "Flush", lsm.Do(x.Flush))
	if n := x.Number(); n < 1 || n > 99 {
		t.Fatalf("Number = %d", n)
	}
}

// P15.10
func TestDo(t *testing.T) {
	for _, how := range []api.Errno{api.OK, api.ErrNone, api.ErrLine, -3} {
		steps := 0
		got := lsm.Do(func(then lsm.Then) sched.Next {
			return sched.Next{Do: func(slot int) sched.Next {
				steps++
				return sched.Next{Do: func(slot int) sched.Next {
					steps++
					return then(how)
				}}
			}}
		})
		if got != how || steps != 2 {
			t.Errorf("Do = %d behind %d steps; want %d", got, steps, how)
		}
	}
	// A task goes on behind its work.
	x, _ := fresh(t)
	var how []api.Errno
	got := lsm.Do(func(then lsm.Then) sched.Next {
		return x.Put([]api.Entry{entry("a", "1")}, func(e api.Errno) sched.Next {
			how = append(how, e)
			return x.Flush(func(e api.Errno) sched.Next {
				how = append(how, e)
				return x.Compact(then)
			})
		})
	})
	if got != api.ErrNone || !slices.Equal(how, []api.Errno{api.OK, api.OK}) || x.Waiting() != 0 {
		t.Errorf("Do = %d behind %v", got, how)
	}
	// Some have no end, or none that they tell.
	held := sched.NewMutex()
	s, _ := sched.New(1)
	s.Put(0, sched.Next{On: held, Do: func(int) sched.Next { return sched.Next{} }})
	s.Step(0)
	waits := sched.Next{On: held, Do: func(int) sched.Next { return sched.Next{} }}
	if got := lsm.Do(func(lsm.Then) sched.Next { return waits }); got != api.ErrState {
		t.Errorf("Do of a task that waits for ever = %d", got)
	}
	if got := lsm.Do(func(lsm.Then) sched.Next { return sched.Next{} }); got != api.ErrState {
		t.Errorf("Do of a task without a step = %d", got)
	}
	if got := lsm.Do(nil); got != api.ErrArg {
		t.Errorf("Do of nil = %d", got)
	}
}

// Each task calls what comes behind it once, in its last step; nil is nothing more.
func TestThen(t *testing.T) {
	for kind := range allTasks(nil) {
		x, _ := fresh(t)
		for i := range 2 {
			wantOK(t, "Put", put(x, entry(fmt.Sprint(i), "")))
			wantOK(t, "Flush", lsm.Do(x.Flush))
		}
		wantOK(t, "Put", put(x, entry("waits", "")))
		task := allTasks(x)[kind]
		s, _ := sched.New(1)
		calls, after := 0, 0
		wantOK(t, "Put", s.Put(0, task(func(e api.Errno) sched.Next {
			calls++
			wantOK(t, kind, e)
			return sched.Next{Do: func(int) sched.Next {
				after++
				return sched.Next{}
			}}
		})))
		for calls == 0 {
			wantOK(t, "Step", s.Step(0))
		}
		if !s.Alive(0) || after != 0 {
			t.Fatalf("%s: what comes behind it was done with it", kind)
		}
		wantOK(t, "Step", s.Step(0))
		if s.Alive(0) || calls != 1 || after != 1 {
			t.Fatalf("%s: %d calls, %d steps behind it", kind, calls, after)
		}
		wantOK(t, "Put", s.Put(0, task(nil)))
		for s.Alive(0) {
			wantOK(t, "Step", s.Step(0))
		}
	}
}
