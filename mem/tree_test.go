package mem

import (
	"fmt"
	"math/rand/v2"
	"strings"
	"testing"
)

// looked answers how many keys are looked at, at most, to find one of the tree, and how many there are, counted one by one; it wants the tree to be even, and its keys to stand between these two.
func looked(t *testing.T, what string, n *node[int], low, top string) (high, size int) {
	t.Helper()
	if n == nil {
		return 0, 0
	}
	if n.key <= low || n.key >= top {
		t.Fatalf("%s: %q stands between %q and %q", what, n.key, low, top)
	}
	below, fewer := looked(t, what, n.below, low, n.key)
	above, more := looked(t, what, n.above, n.key, top)
	if below > above+1 || above > below+1 {
		t.Fatalf("%s: %q stands over %d and %d", what, n.key, below, above)
	}
	return 1 + max(below, above), 1 + fewer + more
}

// wantLooked wants High and Len to be what is counted.
func wantLooked(t *testing.T, what string, m Map[int]) {
	t.Helper()
	high, size := looked(t, what, m.top, "", "~")
	if m.High() != high || m.Len() != size {
		t.Fatalf("%s: High() = %d, Len() = %d; counted %d and %d", what, m.High(), m.Len(), high, size)
	}
}

// P11.3: High is how many keys are looked at, at most, neither more nor less, in each map on the way.
func TestHighIsLooked(t *testing.T) {
	r := rand.New(rand.NewPCG(11, 8))
	for round := range 60 {
		var m Map[int]
		keys := 1 + r.IntN(150)
		for step := range 300 {
			key := strings.Repeat("k", 1+r.IntN(2)) + fmt.Sprint(r.IntN(keys))
			if r.IntN(10) < 3+step/75 {
				m = m.Without(key)
			} else {
				m = m.Put(key, step)
			}
			wantLooked(t, fmt.Sprintf("round %d, step %d", round, step), m)
		}
	}
}

// The same for keys that rise, and are taken away from either end.
func TestHighIsLookedRising(t *testing.T) {
	var m Map[int]
	for i := range 1200 {
		m = m.Put(fmt.Sprintf("%04d", i), i)
		wantLooked(t, fmt.Sprint("in ", i), m)
	}
	full := m
	for i := range 1200 {
		m = m.Without(fmt.Sprintf("%04d", i))
		wantLooked(t, fmt.Sprint("out ", i), m)
	}
	wantLooked(t, "the full map behind all", full)
	for i := range 1200 {
		full = full.Without(fmt.Sprintf("%04d", 1199-i))
		wantLooked(t, fmt.Sprint("out backwards ", i), full)
	}
}
