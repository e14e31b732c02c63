package mem_test

import (
	"fmt"
	"math/rand/v2"
	"slices"
	"strconv"
	"strings"
	"testing"

	"silo/mem"
)

// pair is a key and its value.
type pair struct {
	key string
	val int
}

// paper is a map worked out another way: a list of pairs by rising keys, written anew for each change.
type paper []pair

// with answers the list with this value at the key.
func (p paper) with(key string, val int) paper {
	list := append(p.without(key), pair{key, val})
	slices.SortFunc(list, func(x, y pair) int { return strings.Compare(x.key, y.key) })
	return list
}

// without answers the list without the key.
func (p paper) without(key string) paper {
	var list paper
	for _, x := range p {
		if x.key != key {
			list = append(list, x)
		}
	}
	return list
}

// get answers the key's value.
func (p paper) get(key string) (int, bool) {
	for _, x := range p {
		if x.key == key {
			return x.val, true
		}
	}
	return 0, false
}

// from answers the pairs from a key on.
func (p paper) from(key string) paper {
	for i, x := range p {
		if x.key >= key {
			return p[i:]
		}
	}
	return nil
}

// bound answers the most that High may be for so many keys: three times the binary digits of their number and one, halved and rounded up.
func bound(n int) int {
	return (3*len(strconv.FormatInt(int64(n)+1, 2)) + 1) / 2
}

// wantHigh wants High to be at least so much that all keys can be found, each look telling below, above or found, and at most the chapter's bound.
func wantHigh[V any](t *testing.T, name string, m mem.Map[V]) {
	t.Helper()
	n, high := m.Len(), m.High()
	if n == 0 {
		if high != 0 {
			t.Errorf("%s: High() of no keys = %d", name, high)
		}
		return
	}
	least := len(strconv.FormatInt(int64(n), 2))
	if high < least || high > bound(n) {
		t.Errorf("%s: High() of %d keys = %d; want %d to %d", name, n, high, least, bound(n))
	}
}

// walked answers what a Walk tells, from a key on.
func walked(m mem.Map[int], key string) paper {
	var list paper
	next := m.Walk(key)
	for k, v, ok := next(); ok; k, v, ok = next() {
		list = append(list, pair{k, v})
	}
	return list
}

// given answers what a range gives, from a key on.
func given(m mem.Map[int], key string) paper {
	var list paper
	for k, v := range m.From(key) {
		list = append(list, pair{k, v})
	}
	return list
}

// agree wants a map to tell the same as the list, asked from these keys on.
func agree(t *testing.T, name string, m mem.Map[int], p paper, keys ...string) {
	t.Helper()
	if m.Len() != len(p) {
		t.Fatalf("%s: Len() = %d; want %d", name, m.Len(), len(p))
	}
	wantHigh(t, name, m)
	for _, key := range keys {
		want, there := p.get(key)
		if v, ok := m.Get(key); v != want || ok != there {
			t.Fatalf("%s: Get(%q) = %d, %t; want %d, %t", name, key, v, ok, want, there)
		}
		if got := walked(m, key); !slices.Equal(got, p.from(key)) {
			t.Fatalf("%s: Walk(%q) = %v; want %v", name, key, got, p.from(key))
		}
		if got := given(m, key); !slices.Equal(got, p.from(key)) {
			t.Fatalf("%s: From(%q) = %v; want %v", name, key, got, p.from(key))
		}
	}
}

// asked answers the keys that a list has, those just above them, the empty one and one above all.
func asked(p paper) []string {
	list := []string{"", "\xff\xff"}
	for _, x := range p {
		list = append(list, x.key, x.key+"\x00")
	}
	return list
}

// version is a map, and what it tells.
type version struct {
	m mem.Map[int]
	p paper
}

// put answers the version with this value at the key.
func (v version) put(key string, val int) version {
	return version{v.m.Put(key, val), v.p.with(key, val)}
}

// without answers the version without the key.
func (v version) without(key string) version { return version{v.m.Without(key), v.p.without(key)} }

// name answers the key with this number: keys rise with their numbers.
func name(n int) string { return fmt.Sprintf("%05d", n) }

// numbers answers the numbers from 0 on, below n.
func numbers(n int) []int {
	var list []int
	for i := range n {
		list = append(list, i)
	}
	return list
}

// fromEnds answers those numbers by turns from the first one and from the last one on.
func fromEnds(n int) []int {
	var list []int
	for i := range n {
		list = append(list, []int{i / 2, n - 1 - i/2}[i%2])
	}
	return list
}

// order is a row in which so many keys come.
type order struct {
	name string
	of   func(r *rand.Rand, n int) []int
}

// orders answers the rows in which keys are put in and taken out.
func orders() []order {
	return []order{
		{"rising", func(_ *rand.Rand, n int) []int { return numbers(n) }},
		{"falling", func(_ *rand.Rand, n int) []int {
			list := numbers(n)
			slices.Reverse(list)
			return list
		}},
		{"drawn", func(r *rand.Rand, n int) []int { return r.Perm(n) }},
		{"from both ends", func(_ *rand.Rand, n int) []int { return fromEnds(n) }},
		{"from the middle on", func(_ *rand.Rand, n int) []int {
			list := fromEnds(n)
			slices.Reverse(list)
			return list
		}},
	}
}

// The rows of orders have each number once.
func TestOrders(t *testing.T) {
	r := rand.New(rand.NewPCG(11, 1))
	for _, o := range orders() {
		for n := range 12 {
			list := o.of(r, n)
			slices.Sort(list)
			if !slices.Equal(list, numbers(n)) {
				t.Errorf("%s, %d: %v", o.name, n, list)
			}
		}
	}
}

// P11.1 to P11.3: keys put in by each order and taken away by each, held against the list at each step; each of the maps on the way, looked at again behind all of them, tells what it told.
func TestAllOrders(t *testing.T) {
	const keys = 70
	r := rand.New(rand.NewPCG(11, 2))
	for _, in := range orders() {
		for _, out := range orders() {
			what := "in " + in.name + ", out " + out.name
			versions := []version{{}}
			step := func(v version) {
				versions = append(versions, v)
				agree(t, fmt.Sprintf("%s, step %d", what, len(versions)), v.m, v.p, asked(v.p)...)
			}
			for i, n := range in.of(r, keys) {
				step(versions[len(versions)-1].put(name(n), i))
			}
			for _, n := range out.of(r, keys) {
				step(versions[len(versions)-1].without(name(n)))
			}
			for i, v := range versions {
				agree(t, fmt.Sprintf("%s, behind all of it, step %d", what, i), v.m, v.p, "", name(r.IntN(keys)))
			}
		}
	}
}

// permuted calls visit with each order of the numbers from 0 on, below n.
func permuted(n int, visit func(list []int)) {
	var place func(list []int)
	place = func(list []int) {
		if len(list) == n {
			visit(list)
			return
		}
		for i := range n {
			if !slices.Contains(list, i) {
				place(append(list[:len(list):len(list)], i))
			}
		}
	}
	place(nil)
}

// P11.1 to P11.3: all orders of few keys put in, then all orders taken away of five, and each one alone of seven.
func TestAllSmallOrders(t *testing.T) {
	build := func(list []int) version {
		var v version
		for i, n := range list {
			v = v.put(name(n), i)
		}
		return v
	}
	permuted(5, func(in []int) {
		full := build(in)
		permuted(5, func(out []int) {
			v := full
			for i, n := range out {
				v = v.without(name(n))
				agree(t, fmt.Sprintf("in %v, out %v", in, out[:i+1]), v.m, v.p, "", name(out[4]))
			}
		})
		agree(t, fmt.Sprintf("in %v, behind all", in), full.m, full.p, asked(full.p)...)
	})
	permuted(7, func(in []int) {
		full := build(in)
		agree(t, fmt.Sprintf("in %v", in), full.m, full.p, "")
		for n := range in {
			v := full.without(name(n))
			agree(t, fmt.Sprintf("in %v, out %d", in, n), v.m, v.p, "")
		}
		agree(t, fmt.Sprintf("in %v, behind all", in), full.m, full.p, "")
	})
}

// P11.1: maps made out of any of those that were made ahead; each of them is looked at again behind each step.
func TestManyOfOne(t *testing.T) {
	r := rand.New(rand.NewPCG(11, 3))
	for range 6 {
		versions := []version{{}}
		for step := range 150 {
			from := versions[r.IntN(len(versions))]
			if r.IntN(3) > 0 {
				from = versions[len(versions)-1]
			}
			key := name(r.IntN(25))
			if r.IntN(3) == 0 {
				versions = append(versions, from.without(key))
			} else {
				versions = append(versions, from.put(key, step))
			}
			for i, v := range versions {
				agree(t, fmt.Sprintf("step %d, version %d", step, i), v.m, v.p, "")
			}
		}
		for i, v := range versions {
			agree(t, fmt.Sprintf("version %d, behind all", i), v.m, v.p, asked(v.p)...)
		}
	}
}

// drawKey draws a key of few kinds of bytes, so that many begin alike; the empty one is among them.
func drawKey(r *rand.Rand) string {
	b := make([]byte, r.IntN(5))
	for i := range b {
		b[i] = "\x00ab\xff"[r.IntN(4)]
	}
	return string(b)
}

// P11.1 to P11.3: keys that are drawn, put in (again and again the same ones) and taken away, held against the list at each step.
func TestRandomKeys(t *testing.T) {
	r := rand.New(rand.NewPCG(11, 4))
	for round := range 30 {
		var v version
		var old []version
		for step := range 200 {
			key := drawKey(r)
			if len(v.p) > 0 && r.IntN(3) == 0 {
				key = v.p[r.IntN(len(v.p))].key
			}
			old = append(old, v)
			if r.IntN(10) < 4+step/50 {
				v = v.without(key)
			} else {
				v = v.put(key, step)
			}
			agree(t, fmt.Sprintf("round %d, step %d", round, step), v.m, v.p, "", key, key+"\x00", drawKey(r), "\xff\xff\xff\xff\xff")
		}
		for i, v := range old {
			agree(t, fmt.Sprintf("round %d, behind all, step %d", round, i), v.m, v.p, "", drawKey(r))
		}
	}
}

// P11.2: Walks that are begun at drawn keys of a map and asked by turns, while others are made of the map.
func TestRandomWalks(t *testing.T) {
	r := rand.New(rand.NewPCG(11, 5))
	type walk struct {
		next func() (string, int, bool)
		left paper
	}
	for round := range 100 {
		var v version
		var walks []walk
		for step := range 120 {
			key := drawKey(r)
			switch r.IntN(4) {
			case 0:
				v = v.put(key, step)
			case 1:
				v = v.put(key, step).without(drawKey(r))
			case 2:
				walks = append(walks, walk{v.m.Walk(key), v.p.from(key)})
			}
			for i := range walks {
				w := &walks[r.IntN(len(walks))]
				var want pair
				there := len(w.left) > 0
				if there {
					want, w.left = w.left[0], w.left[1:]
				}
				if k, val, ok := w.next(); k != want.key || val != want.val || ok != there {
					t.Fatalf("round %d, step %d, turn %d: %q, %d, %t; want %q, %d, %t", round, step, i, k, val, ok, want.key, want.val, there)
				}
			}
		}
	}
}

// P11.3: many keys, put in by each order and taken away by each, High at each step.
func TestHighOfMany(t *testing.T) {
	const keys = 6000
	r := rand.New(rand.NewPCG(11, 6))
	for _, in := range orders() {
		for _, out := range orders() {
			what := "in " + in.name + ", out " + out.name
			var m mem.Map[int]
			for i, n := range in.of(r, keys) {
				m = m.Put(name(n), n)
				if m.Len() != i+1 {
					t.Fatalf("%s: Len() = %d; want %d", what, m.Len(), i+1)
				}
				wantHigh(t, what, m)
			}
			for i, n := range out.of(r, keys) {
				if v, ok := m.Get(name(n)); v != n || !ok {
					t.Fatalf("%s: Get(%q) = %d, %t", what, name(n), v, ok)
				}
				m = m.Without(name(n))
				if m.Len() != keys-i-1 {
					t.Fatalf("%s: Len() = %d; want %d", what, m.Len(), keys-i-1)
				}
				wantHigh(t, what, m)
			}
		}
	}
}

// sparse answers keys in an order that makes of a tree, none of whose sides is higher than the other by more than one, the highest one for so many keys: level by level, the side with lesser keys the higher one, or the other.
func sparse(high int, lesser bool) []int {
	count := []int{0, 1} // by height, how many keys
	for len(count) <= high {
		n := len(count)
		count = append(count, 1+count[n-1]+count[n-2])
	}
	type part struct{ from, high int }
	var list []int
	for parts := []part{{0, high}}; len(parts) > 0; parts = parts[1:] {
		p := parts[0]
		if p.high <= 0 {
			continue
		}
		below, above := p.high-1, max(p.high-2, 0)
		if !lesser {
			below, above = above, below
		}
		at := p.from + count[below]
		list = append(list, at)
		parts = append(parts, part{p.from, below}, part{at + 1, above})
	}
	return list
}

// P11.3: the bound where a tree is as high as it can be, and behind each key taken from it, the lesser side or the greater one first.
func TestHighOfSparse(t *testing.T) {
	for _, lesser := range []bool{true, false} {
		for high := range 17 {
			keys := sparse(high, lesser)
			what := fmt.Sprintf("%d high, lesser %t", high, lesser)
			var full mem.Map[int]
			for _, n := range keys {
				full = full.Put(name(n), n)
				wantHigh(t, what, full)
			}
			for _, o := range orders() {
				m := full
				for i, n := range o.of(rand.New(rand.NewPCG(11, 7)), len(keys)) {
					m = m.Without(name(n))
					wantHigh(t, fmt.Sprintf("%s, %s, out %d", what, o.name, i), m)
				}
				wantHigh(t, what+", no keys", m)
			}
			if full.Len() != len(keys) {
				t.Errorf("%s: Len() = %d; want %d", what, full.Len(), len(keys))
			}
			for i, p := range given(full, "") {
				if p.key != name(i) || p.val != i {
					t.Fatalf("%s: key %d is %v", what, i, p)
				}
			}
		}
	}
}

// Few keys of sparse trees, each taken away alone, and held against the list.
func TestSparseWithoutEach(t *testing.T) {
	for _, lesser := range []bool{true, false} {
		for high := range 9 {
			var full version
			for _, n := range sparse(high, lesser) {
				full = full.put(name(n), n)
			}
			for n := range full.p {
				v := full.without(name(n))
				agree(t, fmt.Sprintf("%d high, lesser %t, without %d", high, lesser, n), v.m, v.p, "")
				agree(t, fmt.Sprintf("%d high, lesser %t, behind %d", high, lesser, n), full.m, full.p, "")
			}
		}
	}
}
