package mem_test

import (
	"errors"
	"fmt"
	"slices"
	"strings"
	"testing"

	"silo/mem"
)

// A map of numbers is told as a text: its keys with = and their values, by rising keys, with blanks between.

// told tells what a walk answers from a key on, and wants its end to stay.
func told(t *testing.T, name string, next func() (string, int, bool)) string {
	t.Helper()
	var list []string
	k, v, ok := next()
	for ; ok && len(list) < 100000; k, v, ok = next() {
		list = append(list, fmt.Sprint(k, "=", v))
	}
	for i := range 4 {
		if k != "" || v != 0 || ok {
			t.Errorf("%s: behind the last key, call %d: %q, %d, %t; want nothing", name, i, k, v, ok)
		}
		k, v, ok = next()
	}
	return strings.Join(list, " ")
}

// ranged tells what a range over a map gives from a key on.
func ranged(m mem.Map[int], key string) string {
	var list []string
	for k, v := range m.From(key) {
		list = append(list, fmt.Sprint(k, "=", v))
	}
	return strings.Join(list, " ")
}

// wantFrom wants Walk and From to tell this from a key on.
func wantFrom(t *testing.T, name string, m mem.Map[int], key, want string) {
	t.Helper()
	if got := told(t, name, m.Walk(key)); got != want {
		t.Errorf("%s: Walk(%q) = %q; want %q", name, key, got, want)
	}
	if got := ranged(m, key); got != want {
		t.Errorf("%s: From(%q) = %q; want %q", name, key, got, want)
	}
}

// wantMap wants a map to have just these keys and values.
func wantMap(t *testing.T, name string, m mem.Map[int], want string) {
	t.Helper()
	if n := len(strings.Fields(want)); m.Len() != n {
		t.Errorf("%s: Len() = %d; want %d", name, m.Len(), n)
	}
	wantFrom(t, name, m, "", want)
	wantHigh(t, name, m)
}

// wantGet wants a map to have this value at the key.
func wantGet(t *testing.T, name string, m mem.Map[int], key string, want int) {
	t.Helper()
	if v, ok := m.Get(key); v != want || !ok {
		t.Errorf("%s: Get(%q) = %d, %t; want %d, true", name, key, v, ok, want)
	}
}

// wantNone wants a map not to have these keys.
func wantNone(t *testing.T, name string, m mem.Map[int], keys ...string) {
	t.Helper()
	for _, key := range keys {
		if v, ok := m.Get(key); v != 0 || ok {
			t.Errorf("%s: Get(%q) = %d, %t; want 0, false", name, key, v, ok)
		}
	}
}

// made answers a map into which these keys were put, one after the other, with values from 1 on.
func made(keys ...string) mem.Map[int] {
	var m mem.Map[int]
	for i, key := range keys {
		m = m.Put(key, i+1)
	}
	return m
}

// The chapter's example.
func TestExample(t *testing.T) {
	var none mem.Map[int]
	one := none.Put("b", 1)
	two := one.Put("a", 2)
	wantFrom(t, "both", two, "", "a=2 b=1")
	wantFrom(t, "both", two, "b", "b=1")
	wantMap(t, "the map ahead of the second Put", one, "b=1")
	wantMap(t, "the zero map", none, "")
}

// P11.1 to P11.3: the zero map, each function of it.
func TestZero(t *testing.T) {
	var none mem.Map[int]
	if none.Len() != 0 || none.High() != 0 {
		t.Errorf("Len() = %d, High() = %d; want 0, 0", none.Len(), none.High())
	}
	for _, key := range []string{"", "a", "\x00", "\xff"} {
		wantNone(t, "the zero map", none, key)
		wantFrom(t, "the zero map", none, key, "")
		wantMap(t, "Without", none.Without(key), "")
		one := none.Put(key, 7)
		wantMap(t, "Put", one, key+"=7")
		wantGet(t, "Put", one, key, 7)
		wantMap(t, "Put behind Without", none.Without(key).Put(key, 8), key+"=8")
	}
	wantMap(t, "the zero map, behind all", none, "")
}

// P11.1: Put of a new key, of one that is there with another value and with the same one, of the empty key.
func TestPut(t *testing.T) {
	m := made("b", "d", "c")
	wantMap(t, "three keys", m, "b=1 c=3 d=2")
	for _, x := range []struct {
		key  string
		val  int
		want string
	}{
		{"a", 9, "a=9 b=1 c=3 d=2"},
		{"bb", 9, "b=1 bb=9 c=3 d=2"},
		{"e", 9, "b=1 c=3 d=2 e=9"},
		{"", 9, "=9 b=1 c=3 d=2"},
		{"e", 0, "b=1 c=3 d=2 e=0"},
		{"b", 9, "b=9 c=3 d=2"},
		{"c", 9, "b=1 c=9 d=2"},
		{"d", 9, "b=1 c=3 d=9"},
		{"c", 0, "b=1 c=0 d=2"},
		{"b", 1, "b=1 c=3 d=2"},
		{"c", 3, "b=1 c=3 d=2"},
		{"d", 2, "b=1 c=3 d=2"},
	} {
		name := fmt.Sprintf("Put(%q, %d)", x.key, x.val)
		n := m.Put(x.key, x.val)
		wantMap(t, name, n, x.want)
		wantGet(t, name, n, x.key, x.val)
		wantMap(t, name+", the map ahead of it", m, "b=1 c=3 d=2")
	}
}

// P11.1: the empty key is one as all others.
func TestEmptyKey(t *testing.T) {
	m := made("a", "")
	wantMap(t, "two keys", m, "=2 a=1")
	wantGet(t, "two keys", m, "", 2)
	wantFrom(t, "two keys", m, "\x00", "a=1")
	wantMap(t, "another value", m.Put("", 5), "=5 a=1")
	wantMap(t, "without it", m.Without(""), "a=1")
	wantNone(t, "without it", m.Without(""), "")
	alone := made("")
	wantMap(t, "alone", alone, "=1")
	wantMap(t, "alone, without it", alone.Without(""), "")
	wantMap(t, "alone, without another one", alone.Without("a"), "=1")
}

// P11.1: Without of a key that is there, of one that isn't, of the last one.
func TestWithout(t *testing.T) {
	m := made("b", "a", "d", "c")
	for _, x := range []struct{ key, want string }{
		{"a", "b=1 c=4 d=3"},
		{"b", "a=2 c=4 d=3"},
		{"c", "a=2 b=1 d=3"},
		{"d", "a=2 b=1 c=4"},
		{"", "a=2 b=1 c=4 d=3"},
		{"bb", "a=2 b=1 c=4 d=3"},
		{"A", "a=2 b=1 c=4 d=3"},
		{"e", "a=2 b=1 c=4 d=3"},
	} {
		name := fmt.Sprintf("Without(%q)", x.key)
		n := m.Without(x.key)
		wantMap(t, name, n, x.want)
		wantNone(t, name, n, x.key)
		wantMap(t, name+" twice", n.Without(x.key), x.want)
		wantMap(t, name+", the map ahead of it", m, "a=2 b=1 c=4 d=3")
	}
	last := m.Without("a").Without("d").Without("b")
	wantMap(t, "one key", last, "c=4")
	wantMap(t, "no key", last.Without("c"), "")
	wantMap(t, "no key, Without", last.Without("c").Without("c"), "")
	wantMap(t, "no key, Put", last.Without("c").Put("a", 1), "a=1")
}

// P11.1: the maps made out of the same one know nothing of each other.
func TestSiblings(t *testing.T) {
	m := made("b", "d", "f")
	a, c, d := m.Put("a", 7), m.Put("c", 8), m.Put("d", 9)
	noB, noD := m.Without("b"), m.Without("d")
	aa := a.Put("a", 5).Without("f").Put("g", 6)
	for range 2 {
		wantMap(t, "m", m, "b=1 d=2 f=3")
		wantMap(t, "a", a, "a=7 b=1 d=2 f=3")
		wantMap(t, "c", c, "b=1 c=8 d=2 f=3")
		wantMap(t, "d", d, "b=1 d=9 f=3")
		wantMap(t, "without b", noB, "d=2 f=3")
		wantMap(t, "without d", noD, "b=1 f=3")
		wantMap(t, "of a", aa, "a=5 b=1 d=2 g=6")
	}
}

// P11.1, P11.2: a copy of a map is that map.
func TestCopies(t *testing.T) {
	m := made("a", "b")
	n := m
	m = m.Put("c", 3).Without("a")
	wantMap(t, "the copy", n, "a=1 b=2")
	wantMap(t, "the other one", m, "b=2 c=3")
}

// P11.2: Get of each key, of those between, and of those that begin alike.
func TestGet(t *testing.T) {
	keys := []string{"a", "aa", "ab", "a\x00", "b", "\x00", "\xff", "\xff\xff", "é", "z\nz"}
	m := made(keys...)
	for i, key := range keys {
		wantGet(t, "ten keys", m, key, i+1)
	}
	wantNone(t, "ten keys", m, "", "a\x00\x00", "aaa", "A", "ba", "\x00\x00", "\xfe", "\xff\xff\xff", "e", "z", "z\n", "zz")
}

// P11.2: keys rise byte by byte, as Go compares texts.
func TestOrder(t *testing.T) {
	keys := []string{"", "\x00", "\x00\x00", "\x01", "A", "Z", "a", "a\x00", "aa", "ab", "b", "\x7f", "\x80", "\xc3", "é", "日", "\xff", "\xff\x00", "\xff\xff"}
	for _, list := range [][]string{keys, reversed(keys)} {
		m := made(list...)
		var got []string
		for k := range m.From("") {
			got = append(got, k)
		}
		if !slices.Equal(got, keys) {
			t.Errorf("put in as %q: %q", list, got)
		}
	}
}

// reversed answers the list from its end on.
func reversed(list []string) []string {
	list = slices.Clone(list)
	slices.Reverse(list)
	return list
}

// P11.2: Walk and From from the empty key, from each key, from those between, from above all.
func TestFrom(t *testing.T) {
	for _, keys := range [][]string{{"b", "d", "f"}, {"f", "d", "b"}, {"d", "f", "b"}} {
		m := made(keys...)
		all := fmt.Sprintf("b=%d d=%d f=%d", slices.Index(keys, "b")+1, slices.Index(keys, "d")+1, slices.Index(keys, "f")+1)
		for key, n := range map[string]int{"": 0, "a": 0, "b": 0, "b\x00": 1, "c": 1, "d": 1, "d\x00": 2, "e": 2, "f": 2, "f\x00": 3, "g": 3, "\xff": 3} {
			wantFrom(t, fmt.Sprint(keys), m, key, strings.Join(strings.Fields(all)[n:], " "))
		}
	}
}

// P11.2: two Walks of one map, by turns.
func TestWalksByTurns(t *testing.T) {
	m := made("c", "a", "b", "e", "d")
	one, two, late := m.Walk(""), m.Walk("b"), m.Walk("x")
	var first, second []string
	for range 8 {
		k, v, ok := one()
		first = append(first, fmt.Sprint(k, v, ok))
		k, v, ok = two()
		second = append(second, fmt.Sprint(k, v, ok))
		if k, v, ok := late(); k != "" || v != 0 || ok {
			t.Errorf("above all keys: %q, %d, %t", k, v, ok)
		}
	}
	wantTold(t, "from the beginning", first, "a2 true", "b3 true", "c1 true", "d5 true", "e4 true", "0 false", "0 false", "0 false")
	wantTold(t, "from b", second, "b3 true", "c1 true", "d5 true", "e4 true", "0 false", "0 false", "0 false", "0 false")
}

// wantTold wants these texts.
func wantTold(t *testing.T, name string, got []string, want ...string) {
	t.Helper()
	if !slices.Equal(got, want) {
		t.Errorf("%s: %q; want %q", name, got, want)
	}
}

// P11.1, P11.2: a Walk and a range go on over their map while others are made of it.
func TestWalkGoesOn(t *testing.T) {
	m := made("d", "b", "f", "a", "c", "e", "g")
	next := m.Walk("")
	other := m
	var got []string
	for k, v, ok := next(); ok; k, v, ok = next() {
		got = append(got, fmt.Sprint(k, "=", v))
		other = other.Without(k).Put(k+"x", 9).Put("g", 0)
		m = m.Without("g") // the name stands for another map then, which the Walk doesn't see
	}
	wantTold(t, "Walk", got, "a=4", "b=2", "c=5", "d=1", "e=6", "f=3", "g=7")
	wantMap(t, "the other map", other, "ax=9 bx=9 cx=9 dx=9 ex=9 fx=9 g=0 gx=9")
	got = nil
	n := other
	for k, v := range n.From("c") {
		got = append(got, fmt.Sprint(k, "=", v))
		n = n.Without("fx").Put(k, v+1).Put("zz", 1)
	}
	wantTold(t, "From", got, "cx=9", "dx=9", "ex=9", "fx=9", "g=0", "gx=9")
}

// P11.2: a range that is left in the middle, at the first key, and gone through again.
func TestFromLeft(t *testing.T) {
	m := made("d", "b", "a", "c", "e")
	row := m.From("b")
	want := []string{"b", "c", "d", "e"}
	for stop := range len(want) + 2 {
		for range 2 {
			var got []string
			for k := range row {
				got = append(got, k)
				if len(got) > stop {
					break
				}
			}
			wantTold(t, fmt.Sprint("left behind key ", stop), got, want[:min(stop+1, len(want))]...)
		}
	}
	var pairs []string
	for k := range row {
		for l := range row {
			if l >= k {
				break
			}
			pairs = append(pairs, l+k)
		}
	}
	wantTold(t, "one in the other", pairs, "bc", "bd", "cd", "be", "ce", "de")
}

// P11.3: High of few keys.
func TestHighOfFew(t *testing.T) {
	for _, x := range []struct {
		keys      string
		low, most int
	}{
		{"", 0, 0},
		{"a", 1, 1}, // no more than there are
		{"ab", 2, 2},
		{"ba", 2, 2},
		{"aa", 1, 1},
		{"abc", 2, 3},
		{"cba", 2, 3},
		{"bac", 2, 3},
		{"acb", 2, 3},
		{"cab", 2, 3},
		{"abcd", 3, 4},
		{"dbca", 3, 4},
	} {
		m := made(strings.Split(x.keys, "")...)
		if high := m.High(); high < x.low || high > x.most {
			t.Errorf("%s: High() = %d; want %d to %d", x.keys, high, x.low, x.most)
		}
		wantHigh(t, x.keys, m)
	}
}

// The chapter's bound, as it is written there for three keys, and for others.
func TestBound(t *testing.T) {
	for n, want := range map[int]int{0: 2, 1: 3, 2: 3, 3: 5, 6: 5, 7: 6, 14: 6, 15: 8, 1000: 15, 1023: 17} {
		if got := bound(n); got != want {
			t.Errorf("of %d keys: %d; want %d", n, got, want)
		}
	}
}

// thing is a struct with several fields.
type thing struct {
	name string
	list []int
}

// wantValues wants a map to hand out the values that were put in, and the zero value where there is none.
func wantValues[V any](t *testing.T, name string, alike func(x, y V) bool, vals ...V) {
	t.Helper()
	var m mem.Map[V]
	var zero V
	for i, v := range vals {
		m = m.Put(fmt.Sprint(i), v)
	}
	for i, v := range vals {
		if got, ok := m.Get(fmt.Sprint(i)); !ok || !alike(got, v) {
			t.Errorf("%s: Get of value %d = %v, %t; want %v", name, i, got, ok, v)
		}
	}
	if got, ok := m.Get("x"); ok || !alike(got, zero) {
		t.Errorf("%s: Get of no key = %v, %t", name, got, ok)
	}
	next := m.Walk("")
	for i, v := range vals {
		if k, got, ok := next(); k != fmt.Sprint(i) || !ok || !alike(got, v) {
			t.Errorf("%s: Walk: %q, %v, %t; want %d, %v", name, k, got, ok, i, v)
		}
	}
	if k, got, ok := next(); k != "" || ok || !alike(got, zero) {
		t.Errorf("%s: Walk behind the last key: %q, %v, %t", name, k, got, ok)
	}
	i := 0
	for k, got := range m.From("") {
		if k != fmt.Sprint(i) || !alike(got, vals[i]) {
			t.Errorf("%s: From: %q, %v; want %d, %v", name, k, got, i, vals[i])
		}
		i++
	}
}

// same tells whether two values are equal.
func same[V comparable](x, y V) bool { return x == y }

// P11.1, P11.2: values of several types, their zero values among them.
func TestValues(t *testing.T) {
	p, q := new(int), new(int)
	wantValues(t, "numbers", same, 3, 0, -1)
	wantValues(t, "texts", same, "a", "", "\xff")
	wantValues(t, "bools", same, true, false)
	wantValues(t, "pointers", same, p, nil, q, p)
	wantValues(t, "arrays", same, [2]int{1, 2}, [2]int{})
	wantValues(t, "empty structs", same, struct{}{}, struct{}{})
	wantValues(t, "maps", func(x, y mem.Map[int]) bool { return ranged(x, "") == ranged(y, "") }, made("a"), made(), made("b", "a"))
	wantValues[any](t, "things of any type", func(x, y any) bool { return fmt.Sprint(x) == fmt.Sprint(y) }, 1, nil, "a", []int{1})
	wantValues[error](t, "errors", func(x, y error) bool { return fmt.Sprint(x) == fmt.Sprint(y) }, errors.New("a"), nil)
	wantValues(t, "structs", func(x, y thing) bool { return x.name == y.name && slices.Equal(x.list, y.list) }, thing{"a", []int{1}}, thing{}, thing{"b", nil})
	wantValues(t, "functions", func(f, g func() int) bool { return (f == nil) == (g == nil) && (f == nil || f() == g()) }, func() int { return 1 }, nil, func() int { return 2 })
}

// P11.1, P11.2: what is handed out is what was handed in.
func TestHandsOut(t *testing.T) {
	var m mem.Map[[]int]
	list := []int{1, 2}
	m = m.Put("b", list).Put("a", nil).Put("c", nil)
	list[0] = 5
	got, _ := m.Without("a").Get("b")
	if !slices.Equal(got, []int{5, 2}) || &got[0] != &list[0] {
		t.Errorf("Get = %v", got)
	}
	var things mem.Map[*thing]
	x, y := &thing{name: "x"}, &thing{name: "x"}
	things = things.Put("x", x).Put("y", y).Put("x", y).Put("x", x)
	if v, _ := things.Get("x"); v != x {
		t.Errorf("Get answers another pointer")
	}
}
