package epoch_test

import (
	"errors"
	"fmt"
	"math"
	"runtime"
	"slices"
	"testing"
	"weak"

	"silo/api"
	"silo/epoch"
)

func fresh[T any](t *testing.T, slots int) *epoch.Book[T] {
	t.Helper()
	b, e := epoch.New[T](slots)
	if b == nil || e != api.OK {
		t.Fatalf("New(%d) = %v, %d", slots, b, e)
	}
	return b
}

// ok ends the test where one of the answers is an error.
func ok(t *testing.T, answers ...api.Errno) {
	t.Helper()
	for i, e := range answers {
		if e != api.OK {
			t.Fatalf("answer %d is %d", i, e)
		}
	}
}

func wantErr(t *testing.T, call string, got, want api.Errno) {
	t.Helper()
	if got != want {
		t.Errorf("%s = %d; want %d", call, got, want)
	}
}

// wantTold holds all that a book tells without being changed.
func wantTold[T any](t *testing.T, b *epoch.Book[T], now, readers, held int) {
	t.Helper()
	if b.Now() != now || b.Readers() != readers || b.Held() != held {
		t.Errorf("Now, Readers, Held = %d, %d, %d; want %d, %d, %d", b.Now(), b.Readers(), b.Held(), now, readers, held)
	}
}

// wantFree holds what Free gives, and that so many things wait no longer.
func wantFree[T comparable](t *testing.T, b *epoch.Book[T], want ...T) {
	t.Helper()
	held := b.Held()
	if got := b.Free(); !slices.Equal(got, want) {
		t.Errorf("Free() = %v; want %v", got, want)
	}
	if b.Held() != held-len(want) {
		t.Errorf("Held() = %d behind a Free of %d out of %d", b.Held(), len(want), held)
	}
}

// retireTo retires one thing at each time from the book's on, which has the time as its number, until the time is the last one.
func retireTo(t *testing.T, b *epoch.Book[int], last int) {
	t.Helper()
	for b.Now() < last {
		ok(t, b.Retire(b.Now()))
	}
}

// upTo answers the numbers from low on, below high.
func upTo(low, high int) []int {
	var list []int
	for n := low; n < high; n++ {
		list = append(list, n)
	}
	return list
}

// noSlots are numbers that are no slot's of a book with so many.
func noSlots(slots int) []int {
	return []int{-1, -2, -slots, slots, slots + 1, slots + api.MaxTasks, math.MinInt, math.MaxInt}
}

// noTimes are numbers at which nobody can have come to a book with this time.
func noTimes(now int) []int {
	return []int{0, -1, -2, -now, now + 1, now + 2, 2*now + 1, math.MinInt, math.MaxInt}
}

// The chapter's example.
func TestExample(t *testing.T) {
	b := fresh[string](t, 2)
	wantTold(t, b, 1, 0, 0)
	ok(t, b.Enter(0, 1))
	wantTold(t, b, 1, 1, 0)
	ok(t, b.Retire("a"))
	wantTold(t, b, 2, 1, 1)
	wantFree(t, b)
	ok(t, b.Enter(1, 2))
	wantTold(t, b, 2, 2, 1)
	ok(t, b.Leave(0))
	wantTold(t, b, 2, 1, 1)
	wantFree(t, b, "a")
	wantTold(t, b, 2, 1, 0)
	ok(t, b.Retire("b"))
	wantTold(t, b, 3, 1, 1)
	for range 3 {
		wantFree(t, b)
	}
	wantTold(t, b, 3, 1, 1)
	ok(t, b.Leave(1))
	wantFree(t, b, "b")
	wantTold(t, b, 3, 0, 0)
}

// checkType holds a book of any type: what it gives is what was handed in, by same.
func checkType[T any](t *testing.T, same func(a, b T) bool, things ...T) {
	t.Helper()
	b := fresh[T](t, 1)
	ok(t, b.Enter(0, 1), b.Retire(things...), b.Retire(things[0]))
	wantTold(t, b, 3, 1, len(things)+1)
	if list := b.Free(); len(list) != 0 {
		t.Errorf("%T: Free while somebody reads: %v", things[0], list)
	}
	ok(t, b.Leave(0))
	if list := b.Free(); !slices.EqualFunc(list, append(slices.Clone(things), things[0]), same) {
		t.Errorf("%T: Free() = %v; want %v and its first one", things[0], list, things)
	}
	wantTold(t, b, 3, 0, 0)
}

func equal[T comparable](a, b T) bool { return a == b }

// P6.3 (a book is of any type).
func TestTypes(t *testing.T) {
	type pair struct {
		file int
		name string
	}
	one, two := 1, 1
	checkType(t, equal, "a", "", "b")
	checkType(t, equal, 0, -1, 7)
	checkType(t, equal, pair{1, "a"}, pair{}, pair{1, "b"})
	checkType(t, equal, &one, nil, &two)
	checkType(t, equal, [2]byte{1, 2}, [2]byte{})
	checkType(t, equal, struct{}{}, struct{}{})
	checkType(t, equal, errors.New("a"), nil)
	checkType(t, equal, any("a"), nil, 1, 2.5)
	checkType(t, slices.Equal, []byte("ab"), nil, []byte("c"))
	checkType(t, func(a, b func() int) bool { return a() == b() }, func() int { return 1 }, func() int { return 2 })
	checkType(t, func(a, b map[string]int) bool { return len(a) == len(b) }, map[string]int{"a": 1}, nil)
}

// P6.1: refused numbers of slots.
func TestNewRefused(t *testing.T) {
	for _, n := range []int{0, -1, -2, -api.MaxTasks, math.MinInt, api.MaxTasks + 1, api.MaxTasks + 2, 1 << 16, math.MaxInt} {
		if b, e := epoch.New[string](n); b != nil || e != api.ErrArg {
			t.Errorf("New(%d) = %v, %d; want nil, ErrArg", n, b, e)
		}
	}
}

// P6.1: the numbers that are fine, and which slots there are then.
func TestNewSlots(t *testing.T) {
	for n := 1; n <= api.MaxTasks; n++ {
		b := fresh[int](t, n)
		wantTold(t, b, 1, 0, 0)
		wantFree(t, b)
		for _, slot := range noSlots(n) {
			wantErr(t, fmt.Sprintf("%d slots: Enter(%d, 1)", n, slot), b.Enter(slot, 1), api.ErrArg)
			wantErr(t, fmt.Sprintf("%d slots: Leave(%d)", n, slot), b.Leave(slot), api.ErrArg)
		}
		for slot := range n {
			wantErr(t, fmt.Sprintf("%d slots: Leave(%d)", n, slot), b.Leave(slot), api.ErrState)
			wantErr(t, fmt.Sprintf("%d slots: Enter(%d, 1)", n, slot), b.Enter(slot, 1), api.OK)
			wantTold(t, b, 1, slot+1, 0)
		}
		for slot := range n {
			wantErr(t, fmt.Sprintf("%d slots: Enter(%d, 1) again", n, slot), b.Enter(slot, 1), api.ErrState)
			wantErr(t, fmt.Sprintf("%d slots: Leave(%d) again", n, slot), b.Leave(slot), api.OK)
			wantTold(t, b, 1, n-slot-1, 0)
		}
	}
}

// P6.1, P6.3: the time goes on by one with each Retire, of however many things, and with no other call.
func TestNow(t *testing.T) {
	b := fresh[int](t, 2)
	held := 0
	for i, things := range [][]int{nil, {1}, {1, 1}, {}, {5, 6, 7}, make([]int, 1000), nil, nil, {1}} {
		ok(t, b.Retire(things...))
		held += len(things)
		wantTold(t, b, i+2, 0, held)
	}
	ok(t, b.Enter(0, 3))
	b.Free()
	wantErr(t, "Enter again", b.Enter(0, 1), api.ErrState)
	wantErr(t, "Leave of nobody", b.Leave(1), api.ErrState)
	ok(t, b.Leave(0))
	b.Free()
	b.Held()
	b.Readers()
	wantTold(t, b, 10, 0, 0)
}

// P6.2: at which times one may have come, at each time up to some.
func TestEnterTimes(t *testing.T) {
	for now := 1; now <= 6; now++ {
		b := fresh[int](t, 3)
		retireTo(t, b, now)
		for _, at := range noTimes(now) {
			wantErr(t, fmt.Sprintf("at %d: Enter(1, %d)", now, at), b.Enter(1, at), api.ErrArg)
		}
		wantTold(t, b, now, 0, now-1)
		for at := 1; at <= now; at++ {
			wantErr(t, fmt.Sprintf("at %d: Enter(1, %d)", now, at), b.Enter(1, at), api.OK)
			wantTold(t, b, now, 1, now-1)
			ok(t, b.Leave(1))
		}
	}
}

// P6.2: where somebody reads, nobody else enters, and who reads there came when he came.
func TestEnterTaken(t *testing.T) {
	for came := 1; came <= 5; came++ {
		b := fresh[int](t, 2)
		retireTo(t, b, came)
		b.Free()
		ok(t, b.Enter(1, came))
		retireTo(t, b, 8)
		for at := 1; at <= 8; at++ {
			wantErr(t, fmt.Sprintf("Enter(1, %d) where one reads", at), b.Enter(1, at), api.ErrState)
		}
		for _, at := range noTimes(8) {
			wantErr(t, fmt.Sprintf("Enter(1, %d) where one reads", at), b.Enter(1, at), api.ErrArg)
		}
		wantTold(t, b, 8, 1, 8-came)
		wantFree(t, b)
		ok(t, b.Leave(1))
		wantFree(t, b, upTo(came, 8)...)
	}
}

// P6.2: Leave, and Enter there again.
func TestLeave(t *testing.T) {
	b := fresh[string](t, 3)
	ok(t, b.Enter(1, 1))
	wantErr(t, "Leave(0), where nobody reads", b.Leave(0), api.ErrState)
	wantErr(t, "Leave(2), where nobody reads", b.Leave(2), api.ErrState)
	for _, slot := range noSlots(3) {
		wantErr(t, fmt.Sprintf("Leave(%d)", slot), b.Leave(slot), api.ErrArg)
	}
	wantTold(t, b, 1, 1, 0)
	ok(t, b.Leave(1))
	wantTold(t, b, 1, 0, 0)
	wantErr(t, "Leave(1) again", b.Leave(1), api.ErrState)
	ok(t, b.Retire("a"), b.Enter(1, 2))
	wantTold(t, b, 2, 1, 1)
	// The reader who came at 1 is gone: the new one alone counts.
	wantFree(t, b, "a")
	ok(t, b.Leave(1), b.Enter(1, 1), b.Leave(1), b.Enter(1, 2), b.Enter(0, 1))
	wantTold(t, b, 2, 2, 0)
}

// P6.2: where two refusals hold, the one that is named first is the answer.
func TestFirstRefusal(t *testing.T) {
	b := fresh[int](t, 2)
	retireTo(t, b, 4)
	ok(t, b.Enter(0, 2))
	for _, at := range noTimes(4) {
		wantErr(t, fmt.Sprintf("Enter(0, %d), where somebody reads", at), b.Enter(0, at), api.ErrArg)
		for _, slot := range noSlots(2) {
			wantErr(t, fmt.Sprintf("Enter(%d, %d)", slot, at), b.Enter(slot, at), api.ErrArg)
		}
	}
	for _, slot := range noSlots(2) {
		wantErr(t, fmt.Sprintf("Enter(%d, 2)", slot), b.Enter(slot, 2), api.ErrArg)
		wantErr(t, fmt.Sprintf("Leave(%d)", slot), b.Leave(slot), api.ErrArg)
	}
}

// refuse does all calls that a book at the time 5 refuses that has slots 0 to 2, in the last of which nobody reads.
func refuse(t *testing.T, b *epoch.Book[int]) {
	t.Helper()
	for _, at := range noTimes(5) {
		for slot := range 3 {
			wantErr(t, fmt.Sprintf("Enter(%d, %d)", slot, at), b.Enter(slot, at), api.ErrArg)
		}
	}
	for at := 1; at <= 5; at++ {
		for slot := range 2 {
			wantErr(t, fmt.Sprintf("Enter(%d, %d)", slot, at), b.Enter(slot, at), api.ErrState)
		}
		for _, slot := range noSlots(3) {
			wantErr(t, fmt.Sprintf("Enter(%d, %d)", slot, at), b.Enter(slot, at), api.ErrArg)
		}
	}
	for _, slot := range noSlots(3) {
		wantErr(t, fmt.Sprintf("Leave(%d)", slot), b.Leave(slot), api.ErrArg)
	}
	wantErr(t, "Leave(2)", b.Leave(2), api.ErrState)
}

// Rule 3: a refused call changes nothing: the readers are those that they were, and came when they came.
func TestRefusedChangesNothing(t *testing.T) {
	b := fresh[int](t, 3)
	retireTo(t, b, 5)
	ok(t, b.Enter(0, 2), b.Enter(1, 4))
	wantTold(t, b, 5, 2, 4)
	refuse(t, b)
	wantTold(t, b, 5, 2, 4)
	wantFree(t, b, 1)
	refuse(t, b)
	wantFree(t, b)
	wantTold(t, b, 5, 2, 3)
	ok(t, b.Leave(0), b.Enter(0, 4))
	refuse(t, b)
	wantFree(t, b, 2, 3)
	refuse(t, b)
	ok(t, b.Leave(0), b.Leave(1))
	wantTold(t, b, 5, 0, 1)
	wantFree(t, b, 4)
	ok(t, b.Enter(2, 5), b.Enter(1, 1), b.Enter(0, 3))
	wantTold(t, b, 5, 3, 0)
}

// P6.3, P6.5: while nobody reads, all that was retired is freed.
func TestFreeNobody(t *testing.T) {
	b := fresh[int](t, 2)
	wantFree(t, b)
	ok(t, b.Retire())
	wantFree(t, b)
	ok(t, b.Retire(1))
	wantFree(t, b, 1)
	wantFree(t, b)
	ok(t, b.Retire(2, 3), b.Retire(), b.Retire(4))
	wantTold(t, b, 6, 0, 3)
	wantFree(t, b, 2, 3, 4)
	wantTold(t, b, 6, 0, 0)
	ok(t, b.Enter(1, 6), b.Leave(1), b.Retire(5))
	wantFree(t, b, 5)
}

// P6.3, P6.5: one reader, who came at any time, ahead of what is retired, at that time and behind it.
func TestFreeOne(t *testing.T) {
	for came := 1; came <= 7; came++ {
		for slot := range 3 {
			b := fresh[int](t, 3)
			retireTo(t, b, 7)
			ok(t, b.Enter(slot, came))
			wantFree(t, b, upTo(1, came)...)
			wantTold(t, b, 7, 1, 7-came)
			retireTo(t, b, 9)
			wantFree(t, b)
			wantTold(t, b, 9, 1, 9-came)
			ok(t, b.Leave(slot))
			wantFree(t, b, upTo(came, 9)...)
			wantTold(t, b, 9, 0, 0)
		}
	}
}

// P6.3: who comes at the time at which the next things are retired holds them, who comes at the one behind it doesn't.
func TestFreeAtTheTime(t *testing.T) {
	b := fresh[string](t, 2)
	ok(t, b.Retire("old"))
	now := b.Now()
	ok(t, b.Enter(0, now), b.Retire("new", "too"))
	wantFree(t, b, "old")
	ok(t, b.Enter(1, b.Now()), b.Leave(0))
	wantFree(t, b, "new", "too")
	wantTold(t, b, 3, 1, 0)
}

// P6.3, P6.5: three readers who came at any times, and leave in any order.
func TestFreeSeveral(t *testing.T) {
	const last = 5
	for n := range last * last * last {
		came := []int{1 + n%last, 1 + n/last%last, 1 + n/last/last}
		for _, order := range [][]int{{0, 1, 2}, {0, 2, 1}, {1, 0, 2}, {1, 2, 0}, {2, 0, 1}, {2, 1, 0}} {
			b := fresh[int](t, 3)
			retireTo(t, b, last)
			for slot, at := range came {
				ok(t, b.Enter(slot, at))
			}
			freed := slices.Min(came)
			wantFree(t, b, upTo(1, freed)...)
			left := slices.Clone(came)
			for _, slot := range order {
				ok(t, b.Leave(slot))
				left[slot] = last
				wantFree(t, b, upTo(freed, slices.Min(left))...)
				freed = slices.Min(left)
			}
			wantTold(t, b, last, 0, 0)
		}
	}
}

// P6.2, P6.3: a reader says a time that has gone by: what still waits waits longer, what was freed doesn't come back.
func TestLateReader(t *testing.T) {
	b := fresh[int](t, 3)
	retireTo(t, b, 4)
	ok(t, b.Enter(0, 3))
	wantFree(t, b, 1, 2)
	ok(t, b.Enter(1, 1))
	wantTold(t, b, 4, 2, 1)
	ok(t, b.Leave(0))
	wantFree(t, b)
	retireTo(t, b, 6)
	wantFree(t, b)
	ok(t, b.Enter(2, 5), b.Leave(1))
	wantFree(t, b, 3, 4)
	ok(t, b.Enter(1, 2))
	wantFree(t, b)
	ok(t, b.Leave(2))
	wantFree(t, b)
	wantTold(t, b, 6, 1, 1)
	ok(t, b.Leave(1))
	wantFree(t, b, 5)
	wantFree(t, b)
}

// P6.3: things come in the order in which they were retired, like ones as often as they were.
func TestOrder(t *testing.T) {
	b := fresh[string](t, 1)
	ok(t, b.Enter(0, 1), b.Retire("c", "a", "b"), b.Retire(), b.Retire("a"), b.Retire("z", "a", "", "a"), b.Retire(""))
	wantTold(t, b, 6, 1, 9)
	ok(t, b.Leave(0), b.Enter(0, 4))
	wantFree(t, b, "c", "a", "b", "a")
	ok(t, b.Retire("0"), b.Leave(0))
	wantFree(t, b, "z", "a", "", "a", "", "0")
}

// P6.3, rule 4: what Free gave stays as it is, and what is written into it is seen by nobody.
func TestFreedStays(t *testing.T) {
	b := fresh[int](t, 1)
	retireTo(t, b, 9)
	ok(t, b.Enter(0, 4))
	first := b.Free()
	room := first[:cap(first)]
	retireTo(t, b, 40)
	if !slices.Equal(first, upTo(1, 4)) {
		t.Errorf("Retire has changed what Free gave: %v", first)
	}
	for i := range room {
		room[i] = -1
	}
	first = append(first, -2, -3, -4)
	ok(t, b.Leave(0), b.Enter(0, 20))
	second := b.Free()
	if !slices.Equal(second, upTo(4, 20)) {
		t.Errorf("Free() = %v behind a change of what Free gave", second)
	}
	second = append(second, -5)
	ok(t, b.Leave(0))
	wantFree(t, b, upTo(20, 40)...)
	ok(t, b.Retire(1), b.Retire(2, 3))
	wantFree(t, b, 1, 2, 3)
	if !slices.Equal(second, append(upTo(4, 20), -5)) || !slices.Equal(first, []int{-1, -1, -1, -2, -3, -4}) {
		t.Errorf("what Free gave has changed: %v, %v", first, second)
	}
}

// Rule 4: the list that is handed to Retire isn't changed, spare room included, and what is written into it later is not seen.
func TestRetireKeepsNoList(t *testing.T) {
	b := fresh[int](t, 1)
	room := upTo(1, 21)
	for i := range 5 {
		ok(t, b.Retire(room[:i]...))
	}
	if !slices.Equal(room, upTo(1, 21)) {
		t.Errorf("Retire has changed the list: %v", room)
	}
	ok(t, b.Enter(0, 1))
	for i := range room {
		room[i] = -1
	}
	ok(t, b.Retire(7), b.Leave(0))
	wantFree(t, b, 1, 1, 2, 1, 2, 3, 1, 2, 3, 4, 7)
	for _, n := range room {
		if n != -1 {
			t.Fatalf("Free has changed the list: %v", room)
		}
	}
}

// Rule 6: two books have nothing of each other.
func TestTwoBooks(t *testing.T) {
	a, b := fresh[int](t, 1), fresh[int](t, 2)
	ok(t, a.Enter(0, 1), a.Retire(1), b.Retire(2, 3))
	wantErr(t, "a: Enter(1, 1)", a.Enter(1, 1), api.ErrArg)
	wantTold(t, a, 2, 1, 1)
	wantTold(t, b, 2, 0, 2)
	wantFree(t, a)
	wantFree(t, b, 2, 3)
	ok(t, b.Enter(0, 2), b.Enter(1, 1), a.Leave(0))
	wantFree(t, a, 1)
	wantTold(t, a, 2, 0, 0)
	wantTold(t, b, 2, 2, 0)
}

// P6.4: a nil book, each function.
func TestNil(t *testing.T) {
	var b *epoch.Book[string]
	for range 2 {
		wantTold(t, b, 0, 0, 0)
		for _, slot := range []int{0, 1, -1, 15, 16, math.MinInt, math.MaxInt} {
			for _, at := range []int{1, 0, -1, 2, math.MinInt, math.MaxInt} {
				wantErr(t, "nil: Enter", b.Enter(slot, at), api.ErrArg)
			}
			wantErr(t, "nil: Leave", b.Leave(slot), api.ErrArg)
		}
		wantErr(t, "nil: Retire of nothing", b.Retire(), api.ErrArg)
		wantErr(t, "nil: Retire", b.Retire("a", "b"), api.ErrArg)
		if list := b.Free(); len(list) != 0 {
			t.Errorf("nil: Free() = %q", list)
		}
	}
}

// What was freed isn't kept: what nobody else holds is let go, also while other things wait.
func TestFreedIsLetGo(t *testing.T) {
	type thing struct {
		next *thing
		room [64]int
	}
	b := fresh[*thing](t, 1)
	var seen []weak.Pointer[thing]
	for range 3 {
		x := &thing{}
		seen = append(seen, weak.Make(x))
		ok(t, b.Retire(x))
	}
	ok(t, b.Enter(0, 3))
	if n := len(b.Free()); n != 2 {
		t.Fatalf("Free gave %d", n)
	}
	runtime.GC()
	if seen[0].Value() != nil || seen[1].Value() != nil || seen[2].Value() == nil {
		t.Errorf("freed: %v, %v; waiting: %v", seen[0].Value(), seen[1].Value(), seen[2].Value())
	}
	if b.Held() != 1 {
		t.Errorf("Held() = %d", b.Held())
	}
}
