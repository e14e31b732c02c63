package lsm_test

import (
	"fmt"
	"slices"
	"strconv"
	"testing"

	"silo/api"
	"silo/block"
	"silo/disk"
	"silo/lsm"
	"silo/sched"
	"silo/wal"
)

// job is a task in a slot, and how it ended.
type job struct {
	how   api.Errno
	calls int
}

func (j *job) then(e api.Errno) sched.Next {
	j.how = e
	j.calls++
	return sched.Next{}
}

// side is a scheduler with tasks side by side.
type side struct {
	*sched.Sched
	t *testing.T
}

func newSide(t *testing.T) side {
	t.Helper()
	s, e := sched.New(api.MaxTasks)
	wantOK(t, "sched.New", e)
	return side{s, t}
}

// begin puts a task into a slot.
func (s side) begin(slot int, task func(lsm.Then) sched.Next) *job {
	s.t.Helper()
	j := &job{}
	wantOK(s.t, "sched's Put", s.Put(slot, task(j.then)))
	return j
}

// steps lets the task in the slot do so many steps, or as many as it does.
func (s side) steps(slot, n int) {
	s.t.Helper()
	for range n {
		if s.Alive(slot) {
			wantOK(s.t, "Step", s.Step(slot))
		}
	}
}

// finish lets all tasks end.
func (s side) finish() {
	for {
		if _, ok := s.Pick(0); !ok {
			return
		}
	}
}

func putting(x *lsm.Index, list ...api.Entry) func(lsm.Then) sched.Next {
	return func(then lsm.Then) sched.Next { return x.Put(list, then) }
}

// fill takes all blocks of the tier Hot, but for so many, with a file of nobody's.
func fill(t *testing.T, x *lsm.Index, d *disk.Disk, but int) int {
	t.Helper()
	file := x.Number()
	left := d.Room(api.Hot) - d.Used(api.Hot) - but
	if left == 0 {
		return 0
	}
	wantOK(t, "Make", d.Make(api.Hot, file))
	wantOK(t, "Add", d.Add(file, text((left-1)*64)))
	wantOK(t, "Sync", d.Sync(file))
	return file
}

// P15.3
func TestPut(t *testing.T) {
	d := newDisk(t, 10000, 0)
	x := opened(t, d, small)
	want := plain{}
	for i, list := range [][]api.Entry{
		{entry("", "")},
		{entry("a", "1")},
		{entry("a", "2"), gone("b"), entry("c", text(65536))},
		{gone("")},
		{entry("", "again"), gone("c")},
		{entry(text(65536), "long")},
	} {
		wantOK(t, "Put", put(x, list...))
		want.put(list...)
		name := fmt.Sprint("put ", i)
		want.want(t, name, x.View())
		if x.Waiting() != len(want) {
			t.Fatalf("%s: %d wait; want %d", name, x.Waiting(), len(want))
		}
		d.Back()
		x = opened(t, d, small)
		want.want(t, name+", opened anew", x.View())
		if x.Waiting() != len(want) {
			t.Fatalf("%s, opened anew: %d wait; want %d", name, x.Waiting(), len(want))
		}
	}
}

// P15.3: what is refused changes nothing; block's error is told ahead of the length.
func TestPutRefused(t *testing.T) {
	d := newDisk(t, 1<<17, 0)
	x := opened(t, d, small)
	wantOK(t, "Put", put(x, entry("a", "1")))
	want := plain{"a": entry("a", "1")}
	// A list whose Pack is longer than a record by so many bytes.
	long := func(more int) []api.Entry {
		var list []api.Entry
		for i := range 16 {
			list = append(list, entry(fmt.Sprintf("k%02d", i), text(65530)))
		}
		s, e := block.Pack(list)
		wantOK(t, "Pack", e)
		last := &list[15].Val
		*last = text(len(*last) - len(s) + api.MaxRecord + more)
		s, _ = block.Pack(list)
		if len(s) != api.MaxRecord+more {
			t.Fatalf("the list has %d bytes", len(s))
		}
		return list
	}
	many := make([]api.Entry, api.MaxKeys+1)
	for i := range many {
		many[i].Key = fmt.Sprintf("%06d", i)
	}
	for _, y := range []struct {
		name string
		list []api.Entry
		want api.Errno
	}{
		{"nothing", nil, api.OK},
		{"no entries", []api.Entry{}, api.OK},
		{"falling keys", []api.Entry{entry("c", ""), entry("b", "")}, api.ErrArg},
		{"one key twice", []api.Entry{entry("b", ""), entry("b", "")}, api.ErrArg},
		{"gone with a value", []api.Entry{{Key: "b", Val: "1", Gone: true}}, api.ErrArg},
		{"too long a key", []api.Entry{entry(text(65537), "")}, api.ErrLong},
		{"too long a value", []api.Entry{entry("b", text(65537))}, api.ErrLong},
		{"too many entries", many, api.ErrLong},
		{"falling keys, and too long", append(long(1), entry("a", "")), api.ErrArg},
		{"longer than a record", long(1), api.ErrLong},
	} {
		before := see(x, d)
		wantErrno(t, "Put of "+y.name, put(x, y.list...), y.want)
		before.want(t, y.name, x, d)
		wantErrno(t, "Change to "+y.name, change(x, func(*lsm.View) []api.Entry { return y.list }), y.want)
		before.want(t, y.name, x, d)
		want.want(t, y.name, x.View())
	}
	list := long(0)
	wantOK(t, "Put of just a record", put(x, list...))
	want.put(list...)
	want.want(t, "just a record", x.View())
	list[0].Val = text(2)
	wantOK(t, "Change to just a record", change(x, func(*lsm.View) []api.Entry { return long(0) }))
	d.Back()
	want.want(t, "just a record", opened(t, d, small).View())
}

// P15.3: as long as there is room, and no longer, something is put; what is refused leaves no trace.
func TestPutFull(t *testing.T) {
	for _, size := range []int{1, 50, 64, 200, 1000} {
		d := newDisk(t, 60, 0)
		x := opened(t, d, small)
		want := plain{}
		puts := 0
		for {
			y := entry("k"+strconv.Itoa(puts%7), text(size))
			before := see(x, d)
			e := put(x, y)
			if e == api.ErrFull {
				before.want(t, "refused", x, d)
				want.want(t, "refused", x.View())
				break
			}
			wantOK(t, "Put", e)
			want.put(y)
			puts++
		}
		// A few blocks are kept for openings, no more.
		if left := d.Room(api.Hot) - d.Used(api.Hot); left > 8+size/64 || puts < 3 {
			t.Fatalf("%d blocks were left behind %d puts of %d bytes", left, puts, size)
		}
		for range 5 {
			d.Back()
			x = opened(t, d, small)
			want.want(t, "opened anew", x.View())
		}
	}
}

// P15.3: on a disk that others have filled wholly nothing is put; where they have left, it is.
func TestPutOnFullDisk(t *testing.T) {
	x, d := fresh(t)
	want := plain{"a": entry("a", "1")}
	wantOK(t, "Put", put(x, want["a"]))
	file := fill(t, x, d, 0)
	before := see(x, d)
	wantErrno(t, "Put", put(x, entry("b", text(64))), api.ErrFull)
	wantErrno(t, "Change", change(x, func(*lsm.View) []api.Entry { return []api.Entry{entry("b", text(64))} }), api.ErrFull)
	before.want(t, "full", x, d)
	want.want(t, "full", x.View())
	wantOK(t, "Drop", d.Drop(file))
	wantOK(t, "Put", put(x, entry("b", text(64))))
	want.put(entry("b", text(64)))
	want.want(t, "no more", x.View())
	d.Back()
	want.want(t, "opened anew", opened(t, d, small).View())
}

// P15.3: what may not be put is told as that also where there is no room.
func TestPutRefusedOnFullDisk(t *testing.T) {
	x, d := fresh(t)
	fill(t, x, d, 0)
	var long []api.Entry
	for i := range 17 {
		long = append(long, entry(fmt.Sprintf("k%02d", i), text(65000)))
	}
	for _, y := range []struct {
		list []api.Entry
		want api.Errno
	}{
		{nil, api.OK},
		{long[:16], api.ErrFull},
		{long, api.ErrLong},
		{append(slices.Clone(long), entry("a", "")), api.ErrArg},
		{[]api.Entry{entry("a", ""), entry("a", "")}, api.ErrArg},
	} {
		wantErrno(t, "Put", put(x, y.list...), y.want)
		wantErrno(t, "Change", change(x, func(*lsm.View) []api.Entry { return y.list }), y.want)
	}
	plain{}.want(t, "full", x.View())
}

// P15.3: a Put of no entries waits for nobody.
func TestPutOfNoneWaitsNot(t *testing.T) {
	for ahead := range 9 {
		x, _ := fresh(t)
		s := newSide(t)
		note := s.begin(0, allTasks(x)["Note"])
		s.steps(0, ahead)
		none := s.begin(1, putting(x))
		for s.Ready(1) {
			s.steps(1, 1)
		}
		if none.calls != 1 || none.how != api.OK {
			t.Fatalf("behind %d steps of a Note: a Put of none has ended %d times with %d", ahead, none.calls, none.how)
		}
		s.finish()
		wantOK(t, "Note", note.how)
	}
}

// P15.3: what would just not go into the log's last block is refused where no block is left, what would go is not.
func TestPutIntoLastBlock(t *testing.T) {
	for val := range 80 {
		x, d := fresh(t)
		wantOK(t, "Put", put(x, entry("a", text(20))))
		size, _, _ := d.Size(x.State().Logs[0])
		y := entry("b", text(val))
		fits := size+len(wal.Frame(pack(t, y))) <= 64
		fill(t, x, d, 0)
		want := api.ErrFull
		if fits {
			want = api.OK
		}
		wantErrno(t, fmt.Sprintf("Put of %d bytes", val), put(x, y), want)
	}
}

// P15.3: what the caller writes into his list behind the call isn't seen.
func TestPutKeepsNothing(t *testing.T) {
	x, _ := fresh(t)
	s := newSide(t)
	list := []api.Entry{entry("a", "1"), entry("b", "2")}
	j := s.begin(0, putting(x, list...))
	list[0], list[1] = entry("z", "9"), entry("a", "9")
	s.finish()
	wantOK(t, "Put", j.how)
	want := plain{"a": entry("a", "1"), "b": entry("b", "2")}
	want.want(t, "put", x.View())
}

// P15.3: a list that a Change has answered may be written into as soon as it was.
func TestChangeKeepsNothing(t *testing.T) {
	x, d := fresh(t)
	s := newSide(t)
	var list []api.Entry
	j := s.begin(0, func(then lsm.Then) sched.Next {
		return x.Change(func(*lsm.View) []api.Entry {
			list = []api.Entry{entry("a", "1"), entry("b", "2")}
			return list
		}, then)
	})
	for s.Alive(0) {
		s.steps(0, 1)
		if list != nil {
			list[0], list[1] = entry("z", "9"), entry("a", "9")
		}
	}
	wantOK(t, "Change", j.how)
	want := plain{"a": entry("a", "1"), "b": entry("b", "2")}
	want.want(t, "changed", x.View())
	d.Back()
	want.want(t, "opened anew", opened(t, d, small).View())
}

// P15.3: Puts that wait side by side: each of them is seen whole or not, and those that were answered are.
func TestPutsThatWait(t *testing.T) {
	const slots = api.MaxTasks
	for picker := range 40 {
		x, d := fresh(t)
		s := newSide(t)
		var jobs []*job
		for i := range slots {
			list := []api.Entry{entry("all", strconv.Itoa(i))}
			for part := range 3 {
				list = append(list, entry(fmt.Sprintf("p%02d.%d", i, part), "v"))
			}
			jobs = append(jobs, s.begin(i, putting(x, list...)))
		}
		seed := picker
		for {
			seed = seed*picker + 7*picker + 1
			if _, ok := s.Pick(seed >> 3); !ok {
				break
			}
			wantWhole(t, x.View(), jobs)
		}
		d.Back()
		x = opened(t, d, small)
		wantWhole(t, x.View(), jobs)
		for i, j := range jobs {
			if j.how != api.OK || j.calls != 1 {
				t.Fatalf("the Put %d ended %d times with %d", i, j.calls, j.how)
			}
		}
	}
}

// wantWhole wants all parts of each Put or none, all of those that have ended.
func wantWhole(t *testing.T, v *lsm.View, jobs []*job) {
	t.Helper()
	any := false
	for i, j := range jobs {
		parts := 0
		for part := range 3 {
			if _, ok, _ := v.Get(fmt.Sprintf("p%02d.%d", i, part)); ok {
				parts++
			}
		}
		if parts != 0 && parts != 3 || parts == 0 && j.calls > 0 {
			t.Fatalf("%d parts of the Put %d are there; it ended %d times", parts, i, j.calls)
		}
		any = any || parts == 3
	}
	if y, ok, _ := v.Get("all"); ok != any {
		t.Fatalf("%v, %t; any is %t", y, ok, any)
	}
}

// P15.3
func TestChange(t *testing.T) {
	x, d := fresh(t)
	before := see(x, d)
	wantErrno(t, "Change with nil", change(x, nil), api.ErrArg)
	before.want(t, "Change with nil", x, d)
	wantOK(t, "Put", put(x, entry("a", "1"), gone("b")))
	calls := 0
	wantOK(t, "Change", change(x, func(v *lsm.View) []api.Entry {
		calls++
		plain{"a": entry("a", "1"), "b": gone("b")}.want(t, "handed in", v)
		return []api.Entry{gone("a"), entry("b", "2")}
	}))
	if calls == 0 {
		t.Fatal("nothing was asked for")
	}
	want := plain{"a": gone("a"), "b": entry("b", "2")}
	want.want(t, "changed", x.View())
	d.Back()
	want.want(t, "opened anew", opened(t, d, small).View())
}

// P15.3: Changes that put what there is and one more lose nothing, whatever goes on beside them.
func TestChangesSideBySide(t *testing.T) {
	for picker := range 60 {
		x, d := fresh(t)
		s := newSide(t)
		count := func(v *lsm.View, key string) int {
			y, _, e := v.Get(key)
			wantOK(t, "Get", e)
			n, _ := strconv.Atoi(y.Val)
			return n
		}
		more := func(then lsm.Then) sched.Next {
			return x.Change(func(v *lsm.View) []api.Entry {
				return []api.Entry{entry("n", strconv.Itoa(count(v, "n")+1))}
			}, then)
		}
		others := []func(lsm.Then) sched.Next{putting(x, entry("o", "1")), x.Flush, x.Compact, x.Sweep}
		var mores []*job
		seed := picker + 1
		for len(mores) < 40 {
			for slot := range 8 {
				switch {
				case s.Alive(slot):
				case slot < len(others):
					s.begin(slot, others[slot])
				default:
					mores = append(mores, s.begin(slot, more))
				}
			}
			done := func() int {
				n := 0
				for _, j := range mores {
					n += j.calls
				}
				return n
			}
			ahead := done()
			seed = seed*1103515245 + 12345
			s.Pick(seed >> 16 & 0xffff)
			if n := count(x.View(), "n"); n < ahead || n > len(mores) {
				t.Fatalf("n is %d behind %d of %d Changes", n, ahead, len(mores))
			}
		}
		s.finish()
		for _, j := range mores {
			wantOK(t, "Change", j.how)
		}
		if n := count(x.View(), "n"); n != len(mores) {
			t.Fatalf("n is %d behind %d Changes", n, len(mores))
		}
		d.Back()
		if n := count(opened(t, d, small).View(), "n"); n != len(mores) {
			t.Fatalf("opened anew: n is %d behind %d Changes", n, len(mores))
		}
	}
}

// P15.3: between the moment at which a Change asks and the one at which it puts nothing else is put.
func TestChangeIsOneMoment(t *testing.T) {
	for ahead := range 6 {
		x, _ := fresh(t)
		s := newSide(t)
		var ends []string
		note := func(who string) lsm.Then {
			return func(e api.Errno) sched.Next {
				wantOK(t, who, e)
				ends = append(ends, who)
				return sched.Next{}
			}
		}
		wantOK(t, "sched's Put", s.Put(0, x.Change(func(v *lsm.View) []api.Entry {
			y, _, _ := v.Get("k")
			return []api.Entry{entry("k", y.Val+"c")}
		}, note("Change"))))
		wantOK(t, "sched's Put", s.Put(1, x.Put([]api.Entry{entry("k", "p")}, note("Put"))))
		s.steps(0, ahead)
		for s.Ready(1) {
			s.steps(1, 1)
		}
		s.finish()
		want := "pc"
		if slices.Equal(ends, []string{"Change", "Put"}) {
			want = "p"
		}
		if y, _, _ := x.View().Get("k"); y.Val != want || len(ends) != 2 {
			t.Fatalf("%d steps ahead: k is %q behind %v", ahead, y.Val, ends)
		}
	}
}
