// Package six is layer 1: numbers, texts and lists as bytes, in groups of six bits, in one form each.
package six

import (
	"strings"

	"silo/api"
)

const (
	groupBits = 6
	groupMost = 1<<groupBits - 1      // the greatest group
	markLast  = 1 << groupBits        // the last group of a number from 0 on has so much more
	markBelow = 2 << groupBits        // the last group of a number below 0 has so much more
	byteMost  = markBelow | groupMost // the greatest byte that a number has
	aheadMost = 1<<57 - 1             // what is above it has no room for one group more in 63 bits
)

// Writer gathers bytes.
type Writer struct {
	bytes strings.Builder
}

// New answers a writer that has gathered nothing.
func New() *Writer { return &Writer{} }

// Bytes answers what was gathered.
func (w *Writer) Bytes() string {
	if w == nil {
		return ""
	}
	return w.bytes.String()
}

// Count adds a number from 0 on.
func (w *Writer) Count(n int) api.Errno {
	if w == nil || n < 0 {
		return api.ErrArg
	}
	w.groups(n, markLast)
	return api.OK
}

// Whole adds any number.
func (w *Writer) Whole(n int) api.Errno {
	if w == nil {
		return api.ErrArg
	}
	if n < 0 {
		// -n would not do: the least number has no opposite.
		w.groups(-1-n, markBelow)
	} else {
		w.groups(n, markLast)
	}
	return api.OK
}

// groups adds the groups of a number from 0 on, the last one with the mark.
func (w *Writer) groups(n int, mark byte) {
	shift := 0
	for n>>shift > groupMost {
		shift += groupBits
	}
	for ; shift > 0; shift -= groupBits {
		w.bytes.WriteByte(byte(n >> shift & groupMost))
	}
	w.bytes.WriteByte(byte(n&groupMost) | mark)
}

// Text adds a text behind its length.
func (w *Writer) Text(s string) api.Errno {
	if e := w.Count(len(s)); e != api.OK {
		return e
	}
	return w.Raw(s)
}

// Raw adds bytes as they are.
func (w *Writer) Raw(s string) api.Errno {
	if w == nil {
		return api.ErrArg
	}
	w.bytes.WriteString(s)
	return api.OK
}

// PutList adds how many things there are, and each by put.
func PutList[T any](w *Writer, list []T, put func(*Writer, T)) api.Errno {
	if w == nil || put == nil {
		return api.ErrArg
	}
	w.Count(len(list))
	for _, thing := range list {
		put(w, thing)
	}
	return api.OK
}

// Reader goes over bytes.
type Reader struct {
	rest string
}

// Over answers a reader at the beginning of the bytes.
func Over(s string) *Reader { return &Reader{rest: s} }

// Rest answers the bytes that are left.
func (r *Reader) Rest() string {
	if r == nil {
		return ""
	}
	return r.rest
}

// End tells whether none are left.
func (r *Reader) End() api.Errno {
	if r == nil {
		return api.ErrArg
	}
	if r.rest != "" {
		return api.ErrTail
	}
	return api.OK
}

// Whole goes over any number.
func (r *Reader) Whole() (int, api.Errno) {
	if r == nil {
		return 0, api.ErrArg
	}
	n := 0
	for i := range len(r.rest) {
		b := r.rest[i]
		if b > byteMost || i == 0 && b == 0 || n > aheadMost {
			return 0, api.ErrForm
		}
		n = n<<groupBits | int(b&groupMost)
		if b <= groupMost {
			continue
		}
		r.rest = r.rest[i+1:]
		if b&markBelow != 0 {
			n = -1 - n
		}
		return n, api.OK
	}
	return 0, api.ErrShort
}

// Count goes over a number from 0 on.
func (r *Reader) Count() (int, api.Errno) {
	if r == nil {
		return 0, api.ErrArg
	}
	begin := r.rest
	n, e := r.Whole()
	if e != api.OK {
		return 0, e
	}
	if n < 0 {
		r.rest = begin
		return 0, api.ErrForm
	}
	return n, api.OK
}

// Text goes over a text.
func (r *Reader) Text() (string, api.Errno) {
	if r == nil {
		return "", api.ErrArg
	}
	begin := r.rest
	n, e := r.Count()
	if e != api.OK {
		return "", e
	}
	s, e := r.Raw(n)
	if e != api.OK {
		r.rest = begin
		return "", e
	}
	return s, api.OK
}

// Raw goes over so many bytes.
func (r *Reader) Raw(n int) (string, api.Errno) {
	if r == nil || n < 0 {
		return "", api.ErrArg
	}
	if n > len(r.rest) {
		return "", api.ErrShort
	}
	s := r.rest[:n]
	r.rest = r.rest[n:]
	return s, api.OK
}

// TakeList goes over how many things there are, and each by take.
func TakeList[T any](r *Reader, take func(*Reader) (T, api.Errno)) ([]T, api.Errno) {
	if r == nil || take == nil {
		return nil, api.ErrArg
	}
	begin := r.rest
	n, e := r.Count()
	if e != api.OK {
		return nil, e
	}
	// The list grows as things come: the number may be far above what the bytes have.
	var list []T
	for range n {
		thing, e := takeOne(r, take)
		if e != api.OK {
			r.rest = begin
			return nil, e
		}
		list = append(list, thing)
	}
	return list, api.OK
}

// takeOne goes over one thing of a list; a thing has one byte at least.
func takeOne[T any](r *Reader, take func(*Reader) (T, api.Errno)) (T, api.Errno) {
	if r.rest == "" {
		var none T
		return none, api.ErrShort
	}
	return take(r)
}
