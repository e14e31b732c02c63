package sketch

import (
	"testing"

	"silo/api"
)

// wantKept wants a book to keep no more than its chunks' sketches, and which chunks have each of their numbers.
func wantKept(t *testing.T, name string, b *Book) {
	t.Helper()
	marks := 0
	for m, set := range b.with {
		if len(set) == 0 {
			t.Errorf("%s: nobody has %d in row %d, and it is kept", name, m.number, m.row)
		}
		marks += len(set)
		for k, there := range set {
			if s, known := b.sketches[k]; !there || !known || s[m.row] != m.number {
				t.Errorf("%s: %x stands with %d in row %d, and has %v", name, k[:2], m.number, m.row, s)
			}
		}
	}
	if want := Rows * len(b.sketches); marks != want {
		t.Errorf("%s: %d marks are kept; want %d", name, marks, want)
	}
}

// P18.2: what was dropped, or had another sketch, leaves nothing behind.
func TestKept(t *testing.T) {
	b := New()
	wantKept(t, "a new book", b)
	for n := range 400 {
		b.Add(api.Key{byte(n % 50), byte(n % 3)}, Sketch{uint32(n), uint32(n % 2), 2: uint32(n % 7)})
		wantKept(t, "Add", b)
		if n%4 == 0 {
			b.Drop(api.Key{byte(n % 11), byte(n % 3)})
			wantKept(t, "Drop", b)
		}
		b.Near(Sketch{uint32(n + 1), 9}, n%10-1)
		wantKept(t, "Near", b)
	}
	for n := range 50 {
		for more := range 3 {
			b.Drop(api.Key{byte(n), byte(more)})
		}
	}
	if wantKept(t, "all dropped", b); len(b.sketches) != 0 || len(b.with) != 0 {
		t.Errorf("all dropped: %d sketches and %d marks are kept", len(b.sketches), len(b.with))
	}
}
