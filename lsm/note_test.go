package lsm_test

import (
	"fmt"
	"math"
	"reflect"
	"slices"
	"testing"

	"silo/api"
	"silo/lsm"
	"silo/manifest"
	"silo/sched"
)

// P15.5: what a Note's edits come to, and that it lasts.
func TestNote(t *testing.T) {
	x, d := fresh(t)
	wantOK(t, "Put", put(x, entry("a", "1")))
	want := plain{"a": entry("a", "1")}
	hot, cold := x.Number(), x.Number()
	wantOK(t, "Make", d.Make(api.Hot, hot))
	wantOK(t, "Make", d.Make(api.Cold, cold))
	wantOK(t, "Sync", d.Sync(hot))
	wantOK(t, "Sync", d.Sync(cold))
	for _, edits := range [][]api.Edit{
		{addStore(hot, api.Hot), addStore(cold, api.Cold)},
		{dropStore(hot)},
		{addStore(hot, api.Hot), dropStore(cold)},
		{dropStore(hot), addStore(hot, api.Cold)},
	} {
		before := x.State()
		calls := 0
		wantOK(t, "Note", lsm.Do(func(then lsm.Then) sched.Next {
			return x.Note(func(v *lsm.View) []api.Edit {
				calls++
				want.want(t, "handed in", v)
				return edits
			}, then)
		}))
		state, e := manifest.Apply(before, edits...)
		wantOK(t, "Apply", e)
		if now := x.State(); !reflect.DeepEqual(now, state) || calls == 0 {
			t.Fatalf("behind %v the state is %+v; want %+v", edits, now, state)
		}
		d.Back()
		x = opened(t, d, small)
		if now := x.State(); !reflect.DeepEqual(now.Stores, state.Stores) {
			t.Fatalf("opened anew behind %v the state is %+v; want %+v", edits, now, state)
		}
		want.want(t, "opened anew", x.View())
	}
}

// P15.5: what is nothing, and what is refused.
func TestNoteRefused(t *testing.T) {
	x, d := fresh(t)
	wantOK(t, "Put", put(x, entry("a", "1")))
	wantOK(t, "Flush", lsm.Do(x.Flush))
	wantOK(t, "Note", note(x, addStore(50, api.Hot)))
	s := x.State()
	before := see(x, d)
	number := x.Number()
	for _, y := range []struct {
		name  string
		edits []api.Edit
		want  api.Errno
	}{
		{"no edits", nil, api.OK},
		{"no edits, not nil", []api.Edit{}, api.OK},
		{"a store that is there", []api.Edit{addStore(50, api.Cold)}, api.ErrThere},
		{"a log's file", []api.Edit{addStore(s.Logs[0], api.Cold)}, api.ErrThere},
		{"a table's file", []api.Edit{addStore(s.Tables[0].File, api.Cold)}, api.ErrThere},
		{"no file", []api.Edit{addStore(0, api.Cold)}, api.ErrArg},
		{"no tier", []api.Edit{addStore(60, 2)}, api.ErrArg},
		{"a store that isn't there", []api.Edit{dropStore(51)}, api.ErrNone},
		{"one that is, and one that isn't", []api.Edit{dropStore(50), addStore(60, api.Hot), dropStore(51)}, api.ErrNone},
		{"no kind", []api.Edit{{}}, api.ErrArg},
		{"a lesser next number", []api.Edit{{Kind: api.SetNext, File: 1}}, api.ErrArg},
	} {
		wantErrno(t, "Note of "+y.name, note(x, y.edits...), y.want)
		before.want(t, y.name, x, d)
	}
	wantOK(t, "Note with nil", lsm.Do(func(then lsm.Then) sched.Next { return x.Note(nil, then) }))
	before.want(t, "nil", x, d)
	if n := x.Number(); n != number+1 {
		t.Fatalf("Number = %d behind %d", n, number)
	}
}

// P15.5: a full disk, and one that has room for a little.
func TestNoteOnFullDisk(t *testing.T) {
	refused, done := 0, 0
	for but := range 10 {
		x, d := fresh(t)
		wantOK(t, "Put", put(x, entry("a", "1")))
		var edits []api.Edit
		for n := range 40 {
			edits = append(edits, addStore(1000+n, api.Cold))
		}
		file := fill(t, x, d, but)
		before := see(x, d)
		if e := note(x, edits...); e == api.OK {
			done++
			continue
		} else {
			wantErrno(t, "Note", e, api.ErrFull)
		}
		refused++
		before.want(t, "full", x, d)
		wantOK(t, "Drop", d.Drop(file))
		wantOK(t, "Note", note(x, edits...))
		plain{"a": entry("a", "1")}.want(t, "noted", opened(t, d, small).View())
	}
	if refused < 3 {
		t.Errorf("%d times refused, %d times done", refused, done)
	}
}

// P15.5, P15.6: files of stores that are dropped wait for those who read, and go by a Sweep; that of one that is there again stays.
func TestNoteRetires(t *testing.T) {
	x, d := fresh(t)
	var files []int
	for i := range 4 {
		file := x.Number()
		files = append(files, file)
		wantOK(t, "Make", d.Make(api.Tier(i%2), file))
		wantOK(t, "Note", note(x, addStore(file, api.Tier(i%2))))
	}
	wantOK(t, "Enter", x.Epochs().Enter(1, x.Epochs().Now()))
	wantOK(t, "Note", note(x, dropStore(files[0]), dropStore(files[1])))
	wantOK(t, "Note", note(x, dropStore(files[2])))
	if held := x.Epochs().Held(); held != 3 {
		t.Fatalf("%d files wait", held)
	}
	wantOK(t, "Sweep", lsm.Do(x.Sweep))
	for _, file := range files {
		if !slices.Contains(d.Files(), file) {
			t.Fatalf("the file %d is gone", file)
		}
	}
	wantOK(t, "Note", note(x, addStore(files[2], api.Hot)))
	wantOK(t, "Leave", x.Epochs().Leave(1))
	wantOK(t, "Sweep", lsm.Do(x.Sweep))
	wantFiles(t, "swept", x, d)
	if held := x.Epochs().Held(); held != 0 || len(x.State().Stores) != 2 {
		t.Fatalf("%d files wait; the state is %+v", held, x.State())
	}
	// A store without a file goes as any other.
	wantOK(t, "Note", note(x, addStore(9000, api.Hot), addStore(9001, api.Hot)))
	wantOK(t, "Note", note(x, dropStore(9000), dropStore(files[3])))
	if held := x.Epochs().Held(); held != 2 {
		t.Fatalf("%d files wait", held)
	}
	wantOK(t, "Sweep", lsm.Do(x.Sweep))
	if slices.Contains(d.Files(), files[3]) {
		t.Fatalf("the disk has %v", d.Files())
	}
}

// P15.5: a Note is done at one moment: nothing is put between its asking and its being done, and nothing else changes the state.
func TestNoteIsOneMoment(t *testing.T) {
	for ahead := range 14 {
		x, d := fresh(t)
		for i := range 2 {
			wantOK(t, "Put", put(x, entry(fmt.Sprint("t", i), "")))
			wantOK(t, "Flush", lsm.Do(x.Flush))
		}
		wantOK(t, "Put", put(x, entry("u", "")))
		s := newSide(t)
		var asked plain
		var state api.State
		noted := s.begin(0, func(then lsm.Then) sched.Next {
			return x.Note(func(v *lsm.View) []api.Edit {
				asked = plain{}
				asked.put(scan(t, v, "")...)
				state = x.State()
				return []api.Edit{addStore(500, api.Cold)}
			}, then)
		})
		others := []func(lsm.Then) sched.Next{putting(x, entry("k", "1")), x.Flush, x.Compact, func(then lsm.Then) sched.Next {
			return x.Note(func(*lsm.View) []api.Edit { return []api.Edit{addStore(600, api.Hot)} }, then)
		}}
		var jobs []*job
		for i, task := range others {
			jobs = append(jobs, s.begin(1+i, task))
		}
		s.steps(0, ahead)
		hasStore := func() bool {
			return slices.Contains(x.State().Stores, api.Store{File: 500, Tier: int(api.Cold)})
		}
		for n := 0; ; n++ {
			was, wasState := hasStore(), x.State()
			view := x.View()
			if _, ok := s.Pick(n % 5); !ok {
				break
			}
			if !was && hasStore() {
				want, e := manifest.Apply(state, addStore(500, api.Cold))
				wantOK(t, "Apply", e)
				if now := x.State(); !reflect.DeepEqual(now, want) || !reflect.DeepEqual(wasState, state) {
					t.Fatalf("asked at %+v, done at %+v, and then %+v", state, wasState, now)
				}
				asked.want(t, "at the moment of the Note", view)
			}
		}
		wantOK(t, "Note", noted.how)
		for _, j := range jobs {
			wantOK(t, "a task beside it", j.how)
		}
		d.Back()
		if stores := opened(t, d, small).State().Stores; len(stores) != 2 {
			t.Fatalf("the stores are %v", stores)
		}
	}
}

// Rule 1: edits that aren't for a Note don't let anything panic.
func TestNoteOfOthers(t *testing.T) {
	for _, edits := range [][]api.Edit{
		{{Kind: api.AddTable, File: 40, Count: 1, Low: "a", High: "b"}},
		{{Kind: api.AddTable, File: 40, Level: 5, Count: 1, Low: "", High: "zz"}},
		{{Kind: api.AddLog, File: 40}},
		{{Kind: api.SetNext, File: math.MaxInt}},
		{{Kind: api.AddLog, File: 40}, {Kind: api.DropLog, File: 40}},
	} {
		x, d := fresh(t)
		wantOK(t, "Put", put(x, entry("a", "2"), entry("k", "1")))
		wantOK(t, "Note", note(x, edits...))
		v := x.View()
		wantGet(t, "put", v, "k", entry("k", "1"), true)
		v.Get("aa")
		v.Scan("").Next()
		for _, task := range allTasks(x) {
			lsm.Do(task)
		}
		lsm.Open(d, small, 1)
	}
	// A table whose file isn't there, or is none, is told where it may have the key.
	x, d := fresh(t)
	wantOK(t, "Make", d.Make(api.Hot, 41))
	wantOK(t, "Note", note(x,
		api.Edit{Kind: api.AddTable, File: 40, Count: 1, Low: "a", High: "b"},
		api.Edit{Kind: api.AddTable, File: 41, Level: 3, Count: 1, Low: "c", High: "d"}))
	for _, key := range []string{"a", "aa", "b", "c", "d"} {
		if y, ok, e := x.View().Get(key); y != (api.Entry{}) || ok || e != api.ErrCorrupt {
			t.Fatalf("Get(%q) = %v, %t, %d", key, y, ok, e)
		}
		if y, ok, e := x.View().Scan(key).Next(); y != (api.Entry{}) || ok || e != api.ErrCorrupt {
			t.Fatalf("Scan(%q) = %v, %t, %d", key, y, ok, e)
		}
	}
	for _, key := range []string{"", "bb", "e"} {
		wantGet(t, "no table may have it", x.View(), key, api.Entry{}, false)
	}
	if y, ok, e := x.View().Scan("dd").Next(); y != (api.Entry{}) || ok || e != api.OK {
		t.Fatalf("Scan behind all = %v, %t, %d", y, ok, e)
	}
}
