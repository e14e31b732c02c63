package lsm_test

import (
	"fmt"
	"math"
	"slices"
	"testing"

	"silo/api"
	"silo/disk"
	"silo/lsm"
	"silo/sched"
)

// P15.7: of the tier Cold all that is free may be taken.
func TestRoomCold(t *testing.T) {
	d := newDisk(t, 100, 10)
	x := opened(t, d, small)
	for _, used := range []int{0, 3, 9} {
		if used > 0 {
			file := x.Number()
			wantOK(t, "Make", d.Make(api.Cold, file))
			wantOK(t, "Add", d.Add(file, text((used-1)*64)))
			wantOK(t, "Note", note(x, addStore(file, api.Cold)))
		}
		free := 10 - d.Used(api.Cold)
		for has := -3; has < 300; has++ {
			for _, more := range []int{math.MinInt, -1, 0, 1, 63, 64, 65, 127, 128, 129, 500, 576, 577, 640, 641, math.MaxInt - 300, math.MaxInt} {
				if got, want := x.Room(api.Cold, has, more), needs(has, more) <= free; got != want {
					t.Fatalf("%d free: Room(Cold, %d, %d) = %t", free, has, more, got)
				}
			}
		}
		if used > 0 {
			wantOK(t, "Note", note(x, dropStore(x.State().Stores[0].File)))
			wantOK(t, "Sweep", lsm.Do(x.Sweep))
		}
	}
	for _, has := range []int{math.MaxInt, math.MaxInt - 1, math.MaxInt - 64} {
		for _, more := range []int{65, 129, math.MaxInt} {
			if got := x.Room(api.Cold, has, more); got != (more < 600) && has+more > 0 {
				t.Fatalf("Room(Cold, %d, %d) = %t", has, more, got)
			}
		}
	}
}

// needs answers how many blocks a file takes more, counted one by one; more than there are of very many bytes.
func needs(has, more int) int {
	count := func(size int) int {
		n := 1
		for ; size > 0; size -= api.Block {
			n++
		}
		return n
	}
	more = max(more, 0)
	switch {
	case more > 1<<20:
		return math.MaxInt
	case has < 0:
		return count(more)
	}
	return count(has+more) - count(has)
}

// P15.7: what is no tier has no room.
func TestRoomOfNoTier(t *testing.T) {
	x, _ := fresh(t)
	for _, tier := range []api.Tier{-1, 2, math.MinInt, math.MaxInt} {
		for _, more := range []int{-1, 0, 1} {
			if x.Room(tier, -1, more) || x.Room(tier, 5, more) {
				t.Fatalf("there is room in the tier %d", tier)
			}
		}
	}
}

// P15.7: of the tier Hot all but a little may be taken, and no more than that.
func TestRoomHot(t *testing.T) {
	x, d := fresh(t)
	free := func() int { return d.Room(api.Hot) - d.Used(api.Hot) }
	most := 0
	for x.Room(api.Hot, -1, most*64) {
		most++
	}
	if most < free()-7 || most > free()-5 {
		t.Fatalf("%d blocks may be taken of %d", most, free())
	}
	for _, more := range []int{most*64 - 63, most * 64, most*64 + 1, math.MaxInt} {
		if x.Room(api.Hot, -1, more) {
			t.Fatalf("Room(Hot, -1, %d), but not %d", more, most*64-64)
		}
	}
	for _, more := range []int{math.MinInt, -1, 0, 1, most*64 - 64} {
		if !x.Room(api.Hot, -1, more) || !x.Room(api.Hot, 64, more) {
			t.Fatalf("no room for %d bytes", more)
		}
	}
	if !x.Room(api.Hot, 0, most*64) || x.Room(api.Hot, 0, most*64+1) || !x.Room(api.Hot, 1, most*64+63) || x.Room(api.Hot, 1, most*64+64) {
		t.Fatal("a file that is there takes other blocks than those it takes more")
	}
	if !x.Room(api.Hot, 1, 63) || !x.Room(api.Hot, 63, 1) || x.Room(api.Hot, math.MaxInt-5, 100) {
		t.Fatal("a last block")
	}
	fill(t, x, d, 0)
	if !x.Room(api.Hot, 1, 63) || !x.Room(api.Hot, 64, 0) || x.Room(api.Hot, 64, 1) || x.Room(api.Hot, -1, 0) {
		t.Fatal("a full disk")
	}
}

// P15.7: while a manifest stands beside another one, there is as much room as ahead of that, and behind it.
func TestRoomBesideTasks(t *testing.T) {
	x, d := fresh(t)
	wantOK(t, "Note", note(x, addStore(7000, api.Cold)))
	limit := func() int {
		n := 0
		for x.Room(api.Hot, -1, n*64) {
			n++
		}
		return n
	}
	before := limit()
	s := newSide(t)
	j := s.begin(0, func(then lsm.Then) sched.Next {
		return x.Note(func(*lsm.View) []api.Edit { return []api.Edit{dropStore(7000), addStore(7001, api.Cold)} }, then)
	})
	seen := map[int]bool{}
	for s.Alive(0) {
		s.steps(0, 1)
		seen[d.Used(api.Hot)] = true
		if now := limit(); now != before {
			t.Fatalf("there is room for %d blocks; ahead of that for %d", now, before)
		}
	}
	wantOK(t, "Note", j.how)
	if len(seen) < 3 {
		t.Fatalf("the disk has had %v blocks", seen)
	}
}

// stuff fills the tier Hot by files of so many bytes, as far as Room allows, and notes each as a store.
func stuff(t *testing.T, x *lsm.Index, d *disk.Disk, size, piece int) {
	t.Helper()
	for x.Room(api.Hot, -1, 0) {
		file := x.Number()
		wantOK(t, "Make", d.Make(api.Hot, file))
		for has := 0; has < size && x.Room(api.Hot, has, piece); has += piece {
			wantOK(t, "Add", d.Add(file, text(piece)))
		}
		wantOK(t, "Sync", d.Sync(file))
		wantOK(t, "Note of a file that Room has allowed", note(x, addStore(file, api.Hot)))
	}
}

// P15.2, P15.7: on a disk that was filled as far as Room allows the index can be opened, again and again, also where the power goes at any change of that.
func TestOpenOfStuffedDisk(t *testing.T) {
	for hot := 8; hot < 80; hot += 3 {
		for _, size := range []int{0, 64, 1000, 1 << 20} {
			d := newDisk(t, hot, 0)
			x, e := lsm.Open(d, small, 1)
			wantOK(t, "Open", e)
			want := plain{}
			for i := range hot % 7 {
				y := entry(fmt.Sprint("k", i), fmt.Sprint(size))
				if put(x, y) == api.OK {
					want.put(y)
				}
				if i%3 == 1 {
					lsm.Do(x.Flush)
				}
			}
			stuff(t, x, d, size, 1+hot%70)
			stores := x.State().Stores
			for i := range 12 {
				if i%2 == 0 {
					d.Back()
				}
				for n := 0; ; n++ {
					d.Arm(n)
					x, e = lsm.Open(d, small, 1)
					if e == api.OK {
						d.Arm(-1)
						break
					}
					wantErrno(t, fmt.Sprintf("%d blocks: Open with %d changes", hot, n), e, api.ErrDown)
					d.Back(keepsOf(d, i, n)...)
				}
				want.want(t, "opened anew", x.View())
				if !slices.Equal(x.State().Stores, stores) {
					t.Fatalf("State = %+v; want the stores %v", x.State(), stores)
				}
			}
			// It goes on: what is dropped makes room.
			for _, s := range stores {
				wantOK(t, "Note", note(x, dropStore(s.File)))
			}
			wantOK(t, "Sweep", lsm.Do(x.Sweep))
			if len(stores) > 0 {
				wantOK(t, "Put", put(x, entry("more", "")))
			}
		}
	}
}

// P15.2, P15.7: so it is for manifests of all lengths.
func TestOpenOfStuffedDiskAllLengths(t *testing.T) {
	for stores := range 70 {
		d := newDisk(t, 100, 0)
		x := opened(t, d, small)
		if stores%2 == 1 {
			wantOK(t, "Put", put(x, entry("a", "1")))
		}
		for range stores {
			wantOK(t, "Note", note(x, addStore(x.Number(), api.Cold)))
		}
		stuff(t, x, d, 1<<20, 64)
		// Puts may take what is left.
		for put(x, entry("b", text(stores%64))) == api.OK {
		}
		s := x.State()
		for i := range 5 {
			d.Back()
			x, e := lsm.Open(d, small, 1)
			wantOK(t, fmt.Sprintf("%d stores, opened %d times: Open", stores, i), e)
			if !slices.Equal(x.State().Stores, s.Stores) {
				t.Fatalf("State = %+v; want %+v", x.State(), s)
			}
		}
	}
}

// P15.2: so it is where others take the room, by Puts, while a task is under way.
func TestOpenOfDiskFilledMidway(t *testing.T) {
	ends := map[string]map[api.Errno]int{"Flush": {}, "Compact": {}, "Note": {}}
	// The tables of the second conf are far longer than what is put.
	confs := []api.Conf{small, {Fan: 2, Each: 1, Per: 32, Table: 4096}}
	for kind := range ends {
		for hot := 60; hot < 120; hot++ {
			for ahead, ended := 0, false; !ended; ahead++ {
				d := newDisk(t, hot/2, 0)
				x := opened(t, d, confs[hot%2])
				want := plain{}
				put := func(y api.Entry) bool {
					e := put(x, y)
					if e == api.OK {
						want.put(y)
					}
					return e == api.OK
				}
				for i := range 5 {
					put(entry(fmt.Sprint("k", i), text(30)))
					if i%2 == 1 {
						lsm.Do(x.Flush)
					}
				}
				s := newSide(t)
				j := s.begin(0, allTasks(x)[kind])
				s.steps(0, ahead)
				ended = j.calls > 0
				for i := 0; put(entry(fmt.Sprint("m", i%9), text(1+ahead*17%150))); i++ {
				}
				s.finish()
				if ends[kind][j.how]++; j.how != api.OK && j.how != api.ErrFull && j.how != api.ErrNone {
					t.Fatalf("%s = %d", kind, j.how)
				}
				for i := range 3 {
					d.Back()
					x, e := lsm.Open(d, small, 1)
					wantOK(t, fmt.Sprintf("%d blocks, %s, filled behind %d steps, opened %d times: Open", hot/2, kind, ahead, i), e)
					want.want(t, "opened anew", x.View())
				}
			}
		}
		if kind != "Note" && (ends[kind][api.OK] < 20 || ends[kind][api.ErrFull] < 20) {
			t.Errorf("%s ended %v", kind, ends[kind])
		}
	}
}

// keepsOf answers what a loss of power leaves: nothing, all, or some of each file.
func keepsOf(d *disk.Disk, how, n int) []api.Keep {
	var keeps []api.Keep
	for _, file := range d.Files() {
		switch how % 4 {
		case 1:
			keeps = append(keeps, api.Keep{File: file, Bytes: math.MaxInt})
		case 2:
			keeps = append(keeps, api.Keep{File: file, Bytes: n % 40})
		case 3:
			if (file+n)%2 == 0 {
				keeps = append(keeps, api.Keep{File: file, Bytes: 7 * n})
			}
		}
	}
	return keeps
}

// P15.2, P15.7: so it is when tasks fill the disk, beside files that Room allows, up to ErrFull each.
func TestOpenOfFullDisk(t *testing.T) {
	for hot := 7; hot < 70; hot += 7 {
		d := newDisk(t, hot, 0)
		x := opened(t, d, small)
		want := plain{}
		for round := range 30 {
			for i := range 20 {
				y := entry(fmt.Sprint("k", (round*7+i*3)%9), text(round*5%90))
				e := put(x, y)
				if e == api.OK {
					want.put(y)
				} else {
					wantErrno(t, "Put", e, api.ErrFull)
				}
				for _, task := range []func() api.Errno{
					func() api.Errno { return lsm.Do(x.Flush) },
					func() api.Errno { return lsm.Do(x.Compact) },
					func() api.Errno { return note(x, addStore(x.Number(), api.Hot)) },
					func() api.Errno {
						if s := x.State().Stores; len(s) > 0 {
							return note(x, dropStore(s[len(s)/2].File))
						}
						return api.OK
					},
					func() api.Errno { return lsm.Do(x.Sweep) },
				} {
					if (round+i)%3 == 0 {
						if e := task(); e != api.OK && e != api.ErrFull && e != api.ErrNone {
							t.Fatalf("a task = %d", e)
						}
					}
				}
			}
			if round%4 == 3 {
				if file := x.Number(); x.Room(api.Hot, -1, 64) {
					wantOK(t, "Make", d.Make(api.Hot, file))
					wantOK(t, "Add", d.Add(file, text(64)))
				}
			}
			for range 3 {
				d.Back()
				x = opened(t, d, small)
				want.want(t, fmt.Sprintf("%d blocks, round %d", hot, round), x.View())
			}
		}
	}
}
