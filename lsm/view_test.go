package lsm_test

import (
	"fmt"
	"slices"
	"testing"

	"silo/api"
	"silo/disk"
	"silo/levels"
	"silo/lsm"
)

// deep answers an index with entries in its memory and in tables of several levels.
func deep(t *testing.T) (*lsm.Index, *disk.Disk, plain) {
	t.Helper()
	x, d := fresh(t)
	want := plain{}
	for i := range 60 {
		list := []api.Entry{entry(fmt.Sprintf("k%02d", (i*7)%37), fmt.Sprint(i)), gone(fmt.Sprintf("l%02d", (i*5)%41))}
		wantOK(t, "Put", put(x, list...))
		want.put(list...)
		if i%3 == 1 && i < 58 {
			wantOK(t, "Flush", lsm.Do(x.Flush))
		}
		for range 5 {
			if i%6 == 4 && i < 55 {
				lsm.Do(x.Compact)
			}
		}
	}
	found := map[int]bool{}
	for _, a := range x.State().Tables {
		found[a.Level] = true
	}
	if len(found) < 3 || x.Waiting() == 0 {
		t.Fatalf("there are the levels %v, and %d entries wait", found, x.Waiting())
	}
	return x, d, want
}

// P15.8
func TestView(t *testing.T) {
	x, _, want := deep(t)
	v := x.View()
	want.want(t, "deep", v)
	for key := range want {
		for _, from := range []string{key, key + "\x00", key[:2], key[:1]} {
			if got, want := scan(t, v, from), want.live(from); !slices.Equal(got, want) {
				t.Fatalf("Scan(%q) = %v; want %v", from, got, want)
			}
		}
	}
	for _, key := range []string{"", "a", "k", "k00x", "zz", text(70000)} {
		if _, there := want[key]; !there {
			wantGet(t, "deep", v, key, api.Entry{}, false)
		}
	}
	if got := scan(t, v, "zz"); got != nil {
		t.Fatalf("Scan behind all = %v", got)
	}
	// Cursors of one view, side by side, know nothing of one another.
	one, other := v.Scan(""), v.Scan("k1")
	a, b := want.live(""), want.live("k1")
	for i := range len(a) + 2 {
		for _, c := range []struct {
			name string
			list []api.Entry
			next func() (api.Entry, bool, api.Errno)
		}{{"one", a, one.Next}, {"the other", b, other.Next}} {
			y, ok, e := c.next()
			if i < len(c.list) && (y != c.list[i] || !ok) || i >= len(c.list) && ok || e != api.OK {
				t.Fatalf("%s: Next = %v, %t, %d", c.name, y, ok, e)
			}
		}
	}
}

// P15.8: a view stays as it is.
func TestViewStays(t *testing.T) {
	x, _, want := deep(t)
	v := x.View()
	c := v.Scan("")
	first, _, _ := c.Next()
	then := plain{}
	for _, y := range want {
		then.put(y)
	}
	wantOK(t, "Put", put(x, entry("k00", "new"), gone("k01"), entry("zz", "new")))
	for _, task := range []string{"Put", "Flush", "Compact", "Put", "Flush", "Compact", "Compact"} {
		lsm.Do(allTasks(x)[task])
		then.want(t, task, v)
	}
	list := []api.Entry{first}
	for {
		y, ok, e := c.Next()
		wantOK(t, "Next", e)
		if !ok {
			break
		}
		list = append(list, y)
	}
	if !slices.Equal(list, then.live("")) {
		t.Fatalf("a Scan that was begun ahead told %v; want %v", list, then.live(""))
	}
	want.put(entry("k00", "new"), gone("k01"), entry("zz", "new"), entry("z", "9"))
	want.want(t, "now", x.View())
}

// P15.8: a Get reads one block at most of each table that may have the key; none for what the memory has. Each view counts its own.
func TestReads(t *testing.T) {
	x, _, want := deep(t)
	s := x.State()
	keys := []string{"", "k", "zz"}
	for key := range want {
		keys = append(keys, key, key+"x")
	}
	elder := x.View()
	total := 0
	for _, key := range keys {
		v := x.View()
		if n := v.Reads(); n != 0 {
			t.Fatalf("a new view has read %d blocks", n)
		}
		y, ok, e := v.Get(key)
		wantOK(t, "Get", e)
		most := len(levels.Find(s.Tables, key))
		if n := v.Reads(); n > most || ok && n == 0 && x.Waiting() == 0 {
			t.Fatalf("Get(%q) = %v, %t has read %d blocks of %d tables", key, y, ok, n, most)
		}
		total += v.Reads()
	}
	if total == 0 || elder.Reads() != 0 {
		t.Fatalf("%d blocks were read; a view that was asked for nothing has read %d", total, elder.Reads())
	}
	wantOK(t, "Put", put(x, entry("k00", "in the memory")))
	v := x.View()
	wantGet(t, "in the memory", v, "k00", entry("k00", "in the memory"), true)
	if v.Reads() != 0 {
		t.Fatalf("%d blocks were read of the memory", v.Reads())
	}
	blocks := 0
	for _, a := range s.Tables {
		blocks += (a.Count + small.Each - 1) / small.Each
	}
	c := v.Scan("")
	if v.Reads() != 0 {
		t.Fatalf("%d blocks were read ahead of the first entry", v.Reads())
	}
	c.Next()
	if n := v.Reads(); n == 0 || n >= blocks {
		t.Fatalf("the first entry took %d blocks of %d", n, blocks)
	}
	for {
		if _, ok, _ := c.Next(); !ok {
			break
		}
	}
	if n := v.Reads(); n != blocks {
		t.Fatalf("a Scan of all has read %d blocks; there are %d", n, blocks)
	}
	v.Scan("zzz").Next()
	if n := v.Reads(); n != blocks {
		t.Fatalf("a Scan behind all has read %d blocks more", n-blocks)
	}
}

// P15.8: on a disk that is down nothing is told.
func TestViewDown(t *testing.T) {
	for _, c := range []string{"deep", "in the memory", "nothing"} {
		x, d := fresh(t)
		switch c {
		case "deep":
			x, d, _ = deep(t)
		case "in the memory":
			wantOK(t, "Put", put(x, entry("k00", "1"), entry("k01", "1")))
		}
		v := x.View()
		before, begun := v.Scan(""), v.Scan("")
		begun.Next()
		d.Arm(0)
		d.Make(api.Hot, 999)
		for i, v := range []*lsm.View{v, x.View()} {
			for _, key := range []string{"k00", "k30", "l00", "no"} {
				if y, ok, e := v.Get(key); y != (api.Entry{}) || ok || e != api.ErrDown {
					t.Fatalf("%s, view %d: Get(%q) = %v, %t, %d", c, i, key, y, ok, e)
				}
				if y, ok, e := v.Scan(key).Next(); y != (api.Entry{}) || ok || e != api.ErrDown {
					t.Fatalf("%s, view %d: Scan(%q) = %v, %t, %d", c, i, key, y, ok, e)
				}
			}
		}
		if y, ok, e := before.Next(); y != (api.Entry{}) || ok || e != api.ErrDown {
			t.Fatalf("%s: Next = %v, %t, %d", c, y, ok, e)
		}
		if y, ok, e := begun.Next(); y != (api.Entry{}) || ok || e != api.ErrDown && c != "nothing" {
			t.Fatalf("%s: Next of one that was begun = %v, %t, %d", c, y, ok, e)
		}
	}
}

// P15.8: tables whose bytes are others, or that are gone, are told.
func TestViewCorrupt(t *testing.T) {
	for _, how := range []string{"gone", "other bytes", "shorter"} {
		x, d := fresh(t)
		for i := range 3 {
			wantOK(t, "Put", put(x, entry(fmt.Sprint("k", i), "v"), entry(fmt.Sprint("m", i), "v")))
		}
		wantOK(t, "Flush", lsm.Do(x.Flush))
		wantOK(t, "Put", put(x, entry("a", "1"), entry("z", "2")))
		for _, a := range x.State().Tables {
			size, _, _ := d.Size(a.File)
			s, _ := d.Read(a.File, 0, size)
			wantOK(t, "Drop", d.Drop(a.File))
			if how == "gone" {
				continue
			}
			wantOK(t, "Make", d.Make(api.Hot, a.File))
			if how == "shorter" {
				s = s[:1]
			} else {
				s = string([]byte{s[0] ^ 1}) + s[1:]
			}
			wantOK(t, "Add", d.Add(a.File, s))
		}
		v := x.View()
		for _, key := range []string{"k0", "k1"} {
			if y, ok, e := v.Get(key); y != (api.Entry{}) || ok || e != api.ErrCorrupt {
				t.Fatalf("%s: Get(%q) = %v, %t, %d", how, key, y, ok, e)
			}
		}
		wantGet(t, "in the memory", v, "a", entry("a", "1"), true)
		c := v.Scan("a")
		for range 3 {
			if y, ok, e := c.Next(); y != (api.Entry{}) || ok || e != api.ErrCorrupt {
				t.Fatalf("%s: Next = %v, %t, %d", how, y, ok, e)
			}
		}
		if y, ok, e := v.Scan("n").Next(); y != entry("z", "2") || !ok || e != api.OK {
			t.Fatalf("%s: Scan behind the tables = %v, %t, %d", how, y, ok, e)
		}
	}
}

// P15.4: tables that don't tell what was written aren't merged.
func TestCompactCorrupt(t *testing.T) {
	x, d := fresh(t)
	for i := range 2 {
		wantOK(t, "Put", put(x, entry(fmt.Sprint("k", i), "v")))
		wantOK(t, "Flush", lsm.Do(x.Flush))
	}
	wantOK(t, "Drop", d.Drop(x.State().Tables[0].File))
	before := see(x, d)
	for range 2 {
		wantErrno(t, "Compact", lsm.Do(x.Compact), api.ErrCorrupt)
		before.want(t, "corrupt", x, d)
	}
	wantOK(t, "Put", put(x, entry("a", "1")))
}
