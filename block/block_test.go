package block_test

import (
	"fmt"
	"math"
	"runtime"
	"slices"
	"strings"
	"testing"

	"silo/api"
	"silo/block"
	"silo/crc"
	"silo/six"
)

// long answers a text of so many bytes.
func long(n int) string { return strings.Repeat("m", n) }

// some answers so many entries by rising keys.
func some(n int) []api.Entry {
	list := make([]api.Entry, n)
	for i := range list {
		list[i] = api.Entry{Key: fmt.Sprintf("key %06d", i), Val: "v"}
	}
	return list
}

// wantRefused wants an Open of a body, with a right sum behind it, to be refused.
func wantRefused(t *testing.T, name, body string, want api.Errno) {
	t.Helper()
	if list, e := block.Open(crc.Put(body)); len(list) != 0 || e != want {
		t.Errorf("%s: Open = %s, %d; want no entries, %d", name, told(list), e, want)
	}
	if _, e := paperOpen(crc.Put(body)); e != want {
		t.Errorf("%s: the other working-out tells %d; want %d", name, e, want)
	}
}

// wantTaken wants an Open of a body, with a right sum behind it, to give these entries.
func wantTaken(t *testing.T, name, body string, want ...api.Entry) {
	t.Helper()
	list, e := block.Open(crc.Put(body))
	if e != api.OK || !slices.Equal(list, want) {
		t.Errorf("%s: Open = %s, %d; want %s", name, told(list), e, told(want))
	}
	if s, e := block.Pack(want); e != api.OK || s != crc.Put(body) {
		t.Errorf("%s: Pack = %s, %d", name, short(s), e)
	}
}

// The chapter's first example, byte by byte.
func TestExampleOfTwo(t *testing.T) {
	list := []api.Entry{{Key: "ab", Val: "x"}, {Key: "ac", Gone: true}}
	body := string([]byte{0x42, 0x40, 0x42, 0x61, 0x62, 0x42, 0x78, 0x41, 0x41, 0x63, 0x40})
	sum := crc.Sum(body)
	want := body + string([]byte{byte(sum >> 24), byte(sum >> 16), byte(sum >> 8), byte(sum)})
	if s, e := block.Pack(list); e != api.OK || s != want {
		t.Errorf("Pack = %x, %d; want %x", s, e, want)
	}
	if got, e := block.Open(want); e != api.OK || !slices.Equal(got, list) {
		t.Errorf("Open = %s, %d", told(got), e)
	}
}

// The chapter's second example; a list without elements may be nil or not.
func TestExampleOfNone(t *testing.T) {
	sum := crc.Sum("\x40")
	want := string([]byte{0x40, byte(sum >> 24), byte(sum >> 16), byte(sum >> 8), byte(sum)})
	for _, list := range [][]api.Entry{nil, {}, make([]api.Entry, 0, 3)} {
		if e := block.Check(list); e != api.OK {
			t.Errorf("Check of no entries = %d", e)
		}
		if s, e := block.Pack(list); e != api.OK || s != want {
			t.Errorf("Pack of no entries = %x, %d; want %x", s, e, want)
		}
		for _, key := range []string{"", "a"} {
			if n := block.Find(list, key); n != 0 {
				t.Errorf("Find(no entries, %q) = %d", key, n)
			}
		}
	}
	if list, e := block.Open(want); len(list) != 0 || e != api.OK {
		t.Errorf("Open = %s, %d", told(list), e)
	}
}

// P8.1: one entry, and two.
func TestCheck(t *testing.T) {
	for _, x := range []struct {
		name string
		list []api.Entry
		want api.Errno
	}{
		{"one", []api.Entry{{Key: "a", Val: "x"}}, api.OK},
		{"an empty key, an empty value", []api.Entry{{}}, api.OK},
		{"an empty key with a value", []api.Entry{{Val: "x"}}, api.OK},
		{"an empty key, gone", []api.Entry{{Gone: true}}, api.OK},
		{"an empty key first of two", []api.Entry{{}, {Key: "\x00"}}, api.OK},
		{"gone without a value", []api.Entry{{Key: "a", Gone: true}}, api.OK},
		{"gone with a value", []api.Entry{{Key: "a", Val: "x", Gone: true}}, api.ErrArg},
		{"an empty key, gone with a value", []api.Entry{{Val: "x", Gone: true}}, api.ErrArg},
		{"gone with a value, second", []api.Entry{{Key: "a"}, {Key: "b", Val: "x", Gone: true}}, api.ErrArg},
		{"rising", []api.Entry{{Key: "a"}, {Key: "b"}}, api.OK},
		{"rising by a byte more", []api.Entry{{Key: "a"}, {Key: "a\x00"}}, api.OK},
		{"rising, high bytes", []api.Entry{{Key: "\x7f"}, {Key: "\x80"}, {Key: "\xff"}, {Key: "\xff\x00"}}, api.OK},
		{"equal", []api.Entry{{Key: "a"}, {Key: "a"}}, api.ErrArg},
		{"equal, one gone", []api.Entry{{Key: "a", Val: "x"}, {Key: "a", Gone: true}}, api.ErrArg},
		{"equal and empty", []api.Entry{{}, {}}, api.ErrArg},
		{"below", []api.Entry{{Key: "b"}, {Key: "a"}}, api.ErrArg},
		{"below by a byte less", []api.Entry{{Key: "ab"}, {Key: "a"}}, api.ErrArg},
		{"below, high bytes", []api.Entry{{Key: "\x80"}, {Key: "\x7f"}}, api.ErrArg},
		{"an empty key behind another", []api.Entry{{Key: "a"}, {}}, api.ErrArg},
		{"below, not the first", []api.Entry{{Key: "a"}, {Key: "c"}, {Key: "b"}}, api.ErrArg},
		{"below one further ahead alone", []api.Entry{{Key: "c"}, {Key: "a"}, {Key: "b"}}, api.ErrArg},
		{"a key of MaxText bytes", []api.Entry{{Key: long(65536)}}, api.OK},
		{"a value of MaxText bytes", []api.Entry{{Key: "a", Val: long(65536)}}, api.OK},
		{"both of MaxText bytes", []api.Entry{{Key: long(65536), Val: long(65536)}}, api.OK},
		{"a key of one more", []api.Entry{{Key: long(65537)}}, api.ErrLong},
		{"a value of one more", []api.Entry{{Key: "a", Val: long(65537)}}, api.ErrLong},
		{"both of one more", []api.Entry{{Key: long(65537), Val: long(65537)}}, api.ErrLong},
		{"a key of many more", []api.Entry{{Key: long(1 << 20)}}, api.ErrLong},
		{"a long key, second", []api.Entry{{Key: "a"}, {Key: long(65537)}}, api.ErrLong},
		{"a long value, second", []api.Entry{{Key: "a"}, {Key: "b", Val: long(65537)}}, api.ErrLong},
		{"MaxText bytes, the last one another", []api.Entry{{Key: long(65535) + "a"}, {Key: long(65535) + "b"}}, api.OK},
		{"MaxText bytes, equal", []api.Entry{{Key: long(65536)}, {Key: long(65536)}}, api.ErrArg},
	} {
		if e := block.Check(x.list); e != x.want {
			t.Errorf("%s: Check = %d; want %d", x.name, e, x.want)
		}
		if e := wantPack(t, x.list); e != x.want {
			t.Errorf("%s: Pack = %d; want %d", x.name, e, x.want)
		}
	}
}

// P8.1: of two faults the one that is named first, entry by entry.
func TestCheckInOrder(t *testing.T) {
	for _, x := range []struct {
		name string
		list []api.Entry
		want api.Errno
	}{
		{"a long key, gone with a value", []api.Entry{{Key: long(65537), Val: "x", Gone: true}}, api.ErrLong},
		{"a long value, gone", []api.Entry{{Key: "a", Val: long(65537), Gone: true}}, api.ErrLong},
		{"a long key that isn't above", []api.Entry{{Key: "n"}, {Key: long(65537)}}, api.ErrLong},
		{"a long value, an equal key", []api.Entry{{Key: "n"}, {Key: "n", Val: long(65537)}}, api.ErrLong},
		{"an empty key behind another, a long value", []api.Entry{{Key: "n"}, {Val: long(65537)}}, api.ErrLong},
		{"an equal key, then a long one", []api.Entry{{Key: "a"}, {Key: "a"}, {Key: long(65537)}}, api.ErrArg},
		{"an equal key, then a long value", []api.Entry{{Key: "a"}, {Key: "a"}, {Key: "b", Val: long(65537)}}, api.ErrArg},
		{"gone with a value, then a long key", []api.Entry{{Key: "a", Val: "x", Gone: true}, {Key: long(65537)}}, api.ErrArg},
		{"gone with a value, then a long value", []api.Entry{{Key: "a", Val: "x", Gone: true}, {Key: "b", Val: long(1 << 20)}}, api.ErrArg},
		{"a long key, then an equal one", []api.Entry{{Key: long(65537)}, {Key: "n"}, {Key: "n"}}, api.ErrLong},
		{"a long value, then gone with a value", []api.Entry{{Key: "a", Val: long(65537)}, {Key: "b", Val: "x", Gone: true}}, api.ErrLong},
	} {
		if e := wantPack(t, x.list); e != x.want {
			t.Errorf("%s: Pack = %d; want %d", x.name, e, x.want)
		}
	}
}

// P8.1, P8.4: just as many entries as may be, and more; what is told of more is told ahead of all other faults.
func TestCheckOfMaxKeys(t *testing.T) {
	list := some(65536 + 2)
	for n, want := range map[int]api.Errno{65535: api.OK, 65536: api.OK, 65537: api.ErrLong, 65538: api.ErrLong} {
		if e := wantPack(t, list[:n]); e != want {
			t.Errorf("Pack of %d entries = %d; want %d", n, e, want)
		}
	}
	for _, at := range []int{0, 1, 30000, 65535} {
		bad := slices.Clone(list)
		bad[at] = api.Entry{Key: bad[at].Key, Val: "x", Gone: true}
		if e := wantPack(t, bad[:65536]); e != api.ErrArg {
			t.Errorf("gone with a value at %d of MaxKeys: %d", at, e)
		}
		if e := wantPack(t, bad[:65537]); e != api.ErrLong {
			t.Errorf("gone with a value at %d of one more: %d", at, e)
		}
		bad[at] = api.Entry{Key: bad[at].Key, Val: long(65537)}
		if e := wantPack(t, bad[:65536]); e != api.ErrLong {
			t.Errorf("a long value at %d of MaxKeys: %d", at, e)
		}
		bad[max(at, 1)-1], bad[max(at, 1)] = bad[max(at, 1)], bad[max(at, 1)-1]
		wantPack(t, bad[:65536])
	}
	if e := wantPack(t, make([]api.Entry, 65537)); e != api.ErrLong {
		t.Errorf("equal keys, one more than MaxKeys: %d", e)
	}
	if e := wantPack(t, make([]api.Entry, 65536)); e != api.ErrArg {
		t.Errorf("equal keys, MaxKeys: %d", e)
	}
}

// The bytes: what keys share with the one ahead, and what stands behind it.
func TestBytes(t *testing.T) {
	for _, x := range []struct {
		name, body string
		list       []api.Entry
	}{
		{"one, empty", "\x41" + "\x40\x40\x41", []api.Entry{{}}},
		{"one, empty, gone", "\x41" + "\x40\x40\x40", []api.Entry{{Gone: true}}},
		{"one with a value", "\x41" + "\x40\x41k\x43xy", []api.Entry{{Key: "k", Val: "xy"}}},
		{"the empty key ahead", "\x42" + "\x40\x40\x41" + "\x40\x41\x00\x40", []api.Entry{{}, {Key: "\x00", Gone: true}}},
		{"nothing shared", "\x43" + "\x40\x42ab\x41" + "\x40\x42bb\x41" + "\x40\x41c\x41", []api.Entry{{Key: "ab"}, {Key: "bb"}, {Key: "c"}}},
		{"some bytes shared", "\x43" + "\x40\x43abc\x41" + "\x42\x42dd\x41" + "\x41\x41c\x41", []api.Entry{{Key: "abc"}, {Key: "abdd"}, {Key: "ac"}}},
		{"the whole key ahead shared", "\x43" + "\x40\x41a\x41" + "\x41\x41a\x40" + "\x42\x43aaa\x42a", []api.Entry{{Key: "a"}, {Key: "aa", Gone: true}, {Key: "aaaaa", Val: "a"}}},
		{"alike again behind a byte that isn't", "\x42" + "\x40\x43axz\x41" + "\x41\x42yz\x41", []api.Entry{{Key: "axz"}, {Key: "ayz"}}},
		{"shared with the one ahead, not with the first", "\x43" + "\x40\x42aa\x41" + "\x40\x42ba\x41" + "\x41\x41b\x41", []api.Entry{{Key: "aa"}, {Key: "ba"}, {Key: "bb"}}},
		{"a value of 62 bytes", "\x41" + "\x40\x41k\x7f" + long(62), []api.Entry{{Key: "k", Val: long(62)}}},
		{"a value of 63 bytes", "\x41" + "\x40\x41k\x01\x40" + long(63), []api.Entry{{Key: "k", Val: long(63)}}},
		{"64 bytes shared", "\x42" + "\x40\x01\x40" + long(64) + "\x41" + "\x01\x40\x41x\x41", []api.Entry{{Key: long(64)}, {Key: long(64) + "x"}}},
		{"a value of MaxText bytes", "\x41" + "\x40\x41k\x10\x00\x41" + long(65536), []api.Entry{{Key: "k", Val: long(65536)}}},
		{"a key of MaxText bytes", "\x41" + "\x40\x10\x00\x40" + long(65536) + "\x41", []api.Entry{{Key: long(65536)}}},
		{"all but one of MaxText bytes shared", "\x43" + "\x40\x0f\x3f\x7f" + long(65535) + "\x41" + "\x0f\x3f\x7f\x41a\x40" + "\x0f\x3f\x7f\x41b\x42y", []api.Entry{{Key: long(65535)}, {Key: long(65535) + "a", Gone: true}, {Key: long(65535) + "b", Val: "y"}}},
	} {
		wantTaken(t, x.name, x.body, x.list...)
		if e := wantPack(t, x.list); e != api.OK {
			t.Errorf("%s: Pack = %d", x.name, e)
		}
	}
}

// The bytes: a value is told as it is, whatever its bytes are, and a value of no bytes isn't one that is gone.
func TestValues(t *testing.T) {
	for _, val := range []string{"", "\x00", "\x40", "\xff\xfe", "\x42\x40\x42ab", crc.Put("x"), long(4096), long(65535), long(65536)} {
		list := []api.Entry{{Key: "a", Val: val}, {Key: "b", Gone: true}, {Key: "c", Val: val}, {Key: "d"}}
		if e := wantPack(t, list); e != api.OK {
			t.Errorf("Pack of values of %d bytes = %d", len(val), e)
		}
	}
}

// P8.2: the errors of crc.Take come ahead of all others.
func TestOpenWithoutSum(t *testing.T) {
	for _, s := range []string{"", "\x00", "\x40", "\x00\x00\x00", "abc", "\x40\x00\x00"} {
		if list, e := block.Open(s); len(list) != 0 || e != api.ErrShort {
			t.Errorf("Open(%x) = %s, %d; want ErrShort", s, told(list), e)
		}
	}
	for _, s := range []string{"\x00\x00\x00\x01", "\x40\x00\x00\x00\x00", "abcd", "\xc0\xc0\xc0\xc0\xc0", long(100)} {
		if list, e := block.Open(s); len(list) != 0 || e != api.ErrSum {
			t.Errorf("Open(%x) = %s, %d; want ErrSum", s, told(list), e)
		}
	}
	// With faults of any other kind inside.
	for _, body := range []string{"", "\x41", "\xc0", "\x41\x41\x41a\x40", "\x40x", "\x41\x40\x41a\x10\x00\x42", "\x42\x40\x41a\x41\x41\x40\x41"} {
		s := []byte(crc.Put(body))
		s[len(s)-1] ^= 1
		if list, e := block.Open(string(s)); len(list) != 0 || e != api.ErrSum {
			t.Errorf("Open(%x) = %s, %d; want ErrSum", s, told(list), e)
		}
	}
	// The sum of a sum: what stands ahead of it has its tail.
	wantRefused(t, "two sums", crc.Put("\x40"), api.ErrTail)
}

// P8.2: the list's Count.
func TestOpenOfCounts(t *testing.T) {
	for _, x := range []struct {
		name, body string
		want       api.Errno
	}{
		{"nothing", "", api.ErrShort},
		{"a number cut off", "\x01", api.ErrShort},
		{"a number cut off further behind", "\x01\x00\x3f", api.ErrShort},
		{"a first group of 0", "\x00\x41\x40\x41a\x40", api.ErrForm},
		{"a first group of 0 alone", "\x00", api.ErrForm},
		{"a number below 0", "\x80", api.ErrForm},
		{"a number below 0, and entries", "\x81\x40\x41a\x40", api.ErrForm},
		{"no byte of a number", "\xc0", api.ErrForm},
		{"no byte of a number, further behind", "\x01\xff", api.ErrForm},
		{"a number of too many groups", "\x08" + strings.Repeat("\x00", 9) + "\x40", api.ErrForm},
		{"one entry, none there", "\x41", api.ErrShort},
		{"two entries, one there", "\x42\x40\x41a\x40", api.ErrShort},
		{"the greatest number, none there", number(math.MaxInt), api.ErrShort},
		{"the greatest number, one there", number(math.MaxInt) + "\x40\x41a\x40", api.ErrShort},
		{"more than MaxKeys, none there", number(65537), api.ErrShort},
		{"more than MaxKeys, a wrong one there", number(65537) + "\xc0", api.ErrForm},
		{"no entries, one there", "\x40\x40\x41a\x40", api.ErrTail},
		{"one entry, two there", "\x41\x40\x41a\x40\x40\x41b\x40", api.ErrTail},
		{"something behind no entries", "\x40\x40", api.ErrTail},
	} {
		wantRefused(t, x.name, x.body, x.want)
	}
}

// P8.2: of one entry, and of a second one, each refusal.
func TestOpenOfEntries(t *testing.T) {
	ahead := "\x42" + piece(0, "abc", 1, "")
	for _, x := range []struct {
		name, body string
		want       api.Errno
	}{
		{"the first shares a byte", "\x41" + piece(1, "a", 1, ""), api.ErrForm},
		{"the first shares a byte, with nothing behind", "\x41" + piece(1, "", 1, ""), api.ErrForm},
		{"the first shares the greatest number", "\x41" + piece(math.MaxInt, "a", 1, ""), api.ErrForm},
		{"the Count is cut off", ahead + "\x01", api.ErrShort},
		{"the Count isn't in its form", ahead + "\x00\x40\x41b\x41", api.ErrForm},
		{"the Count is below 0", ahead + "\x80\x41b\x41", api.ErrForm},
		{"the Count is none", ahead + "\xff\x41b\x41", api.ErrForm},
		{"no Text", ahead + "\x40", api.ErrShort},
		{"the Text's number is cut off", ahead + "\x40\x01", api.ErrShort},
		{"the Text's number isn't in its form", ahead + "\x40\x00\x41b\x41", api.ErrForm},
		{"the Text's number is below 0", ahead + "\x40\x80b\x41", api.ErrForm},
		{"the Text's number is none", ahead + "\x40\xc1b\x41", api.ErrForm},
		{"the Text is cut off", ahead + "\x40\x42b", api.ErrShort},
		{"the Text has the greatest number", ahead + "\x40" + number(math.MaxInt) + "b\x41", api.ErrShort},
		{"more shared than there is", ahead + piece(4, "x", 1, ""), api.ErrForm},
		{"more shared than there is, with nothing behind", ahead + piece(4, "", 1, ""), api.ErrForm},
		{"far more shared than there is", ahead + piece(1<<40, "x", 1, ""), api.ErrForm},
		{"the greatest number shared", ahead + piece(math.MaxInt, "x", 1, ""), api.ErrForm},
		{"less told than shared, by one", ahead + piece(2, "cd", 1, ""), api.ErrForm},
		{"less told than shared, by all", ahead + piece(0, "abcd", 1, ""), api.ErrForm},
		{"less told than shared, one of two", ahead + piece(0, "ac", 1, ""), api.ErrForm},
		{"less told than shared, within", ahead + piece(1, "bz", 1, ""), api.ErrForm},
		{"more told than shared", ahead + piece(3, "", 1, ""), api.ErrForm},
		{"a key of one more than MaxText, nothing shared", ahead + piece(0, long(65537), 1, ""), api.ErrLong},
		{"a key of one more than MaxText, all shared", ahead + piece(3, long(65534), 1, ""), api.ErrLong},
		{"a key of one more than MaxText, some shared", ahead + piece(1, long(65536), 1, ""), api.ErrLong},
		{"a key of one more than MaxText, the last byte", "\x42" + piece(0, long(65536), 1, "") + piece(65536, "x", 1, ""), api.ErrLong},
		{"a first key of one more than MaxText", "\x41" + piece(0, long(65537), 1, ""), api.ErrLong},
		{"a first key of many more than MaxText", "\x41" + piece(0, long(1<<20), 1, ""), api.ErrLong},
		{"no second Count", ahead + "\x40\x41b", api.ErrShort},
		{"the second Count is cut off", ahead + "\x40\x41b\x01", api.ErrShort},
		{"the second Count isn't in its form", ahead + "\x40\x41b\x00\x41", api.ErrForm},
		{"the second Count is below 0", ahead + "\x40\x41b\x80", api.ErrForm},
		{"the second Count is none", ahead + "\x40\x41b\xc0", api.ErrForm},
		{"a value of one more than MaxText", ahead + piece(0, "b", 65538, long(65537)), api.ErrLong},
		{"a value of the greatest number", ahead + piece(0, "b", math.MaxInt, "xy"), api.ErrLong},
		{"a value of which all lacks", ahead + piece(0, "b", 2, ""), api.ErrShort},
		{"a value of which a byte lacks", ahead + piece(0, "b", 4, "xy"), api.ErrShort},
		{"a value of MaxText bytes of which one lacks", ahead + piece(0, "b", 65537, long(65535)), api.ErrShort},
		{"the same key", ahead + piece(3, "", 1, ""), api.ErrForm},
		{"a key that is some of the one ahead", ahead + piece(2, "", 1, ""), api.ErrForm},
		{"the empty key", ahead + piece(0, "", 1, ""), api.ErrForm},
		{"the empty key behind the empty key", "\x42" + piece(0, "", 1, "") + piece(0, "", 1, ""), api.ErrForm},
		{"a key below", ahead + piece(0, "Z", 1, ""), api.ErrForm},
		{"a key below by its second byte", ahead + piece(1, "azzz", 1, ""), api.ErrForm},
		{"a key below, gone", ahead + piece(2, "b", 0, ""), api.ErrForm},
		{"a key below, high bytes", "\x42" + piece(0, "\x80", 1, "") + piece(0, "\x7f", 1, ""), api.ErrForm},
		{"something left", ahead + piece(0, "b", 1, "") + "\x40", api.ErrTail},
		{"something left behind a value", ahead + piece(0, "b", 2, "xy"), api.ErrTail},
		{"something left behind one that is gone", ahead + piece(0, "b", 0, "x"), api.ErrTail},
	} {
		wantRefused(t, x.name, x.body, x.want)
	}
	wantTaken(t, "a second entry", ahead+piece(2, "d", 3, "xy"), api.Entry{Key: "abc"}, api.Entry{Key: "abd", Val: "xy"})
	wantTaken(t, "a second entry, gone", ahead+piece(3, "c", 0, ""), api.Entry{Key: "abc"}, api.Entry{Key: "abcc", Gone: true})
	wantTaken(t, "a key of MaxText, some shared", ahead+piece(1, long(65535), 1, ""), api.Entry{Key: "abc"}, api.Entry{Key: "a" + long(65535)})
	wantTaken(t, "a value of MaxText", ahead+piece(0, "b", 65537, long(65536)), api.Entry{Key: "abc"}, api.Entry{Key: "b", Val: long(65536)})
}

// P8.2: of two faults the one that is named first.
func TestOpenInOrder(t *testing.T) {
	ahead := "\x42" + piece(0, "n", 1, "")
	for _, x := range []struct {
		name, body string
		want       api.Errno
	}{
		{"the Count's form, no Text", ahead + "\xc0", api.ErrForm},
		{"the Text cut off, more shared than there is", ahead + "\x42\x42x", api.ErrShort},
		{"no Text, more shared than there is", ahead + "\x42", api.ErrShort},
		{"the first: the Text cut off, something shared", "\x41\x41\x42a", api.ErrShort},
		{"more shared than there is, a long key", ahead + piece(2, long(65537), 1, ""), api.ErrForm},
		{"less told than shared, a long key", ahead + piece(0, "n"+long(65536), 1, ""), api.ErrForm},
		{"the first: something shared, a long key", "\x41" + piece(1, long(65537), 1, ""), api.ErrForm},
		{"more shared than there is, no second Count", ahead + "\x42\x41x", api.ErrForm},
		{"less told than shared, no second Count", ahead + "\x40\x42nn", api.ErrForm},
		{"more shared than there is, a long value", ahead + piece(2, "x", 65538, ""), api.ErrForm},
		{"less told than shared, a value lacks", ahead + piece(0, "nn", 3, "x"), api.ErrForm},
		{"a long key, no second Count", ahead + "\x40" + number(65537) + long(65537), api.ErrLong},
		{"a long key, the second Count's form", ahead + "\x40" + number(65537) + long(65537) + "\xc0", api.ErrLong},
		{"a long key, a value lacks", ahead + piece(0, long(65537), 3, "x"), api.ErrLong},
		{"a long key below", ahead + piece(0, "a"+long(65536), 1, ""), api.ErrLong},
		{"no second Count, a key below", ahead + "\x40\x41a", api.ErrShort},
		{"the second Count cut off, the same key", ahead + "\x41\x40\x01", api.ErrShort},
		{"a long value, of which bytes lack", ahead + piece(0, "x", 65538, "x"), api.ErrLong},
		{"a long value, a key below", ahead + piece(0, "a", 65538, long(65537)), api.ErrLong},
		{"a value lacks, a key below", ahead + piece(0, "a", 3, "x"), api.ErrShort},
		{"a value lacks, the empty key", ahead + piece(0, "", 65537, ""), api.ErrShort},
		{"a key below, something left", ahead + piece(0, "a", 1, "") + "x", api.ErrForm},
		{"the first's value lacks by what the second has", "\x42" + piece(0, "a", 6, "") + piece(0, "a", 1, ""), api.ErrShort},
		{"a key below, then a long one", "\x43" + piece(0, "n", 1, "") + piece(0, "a", 1, "") + piece(0, long(65537), 1, ""), api.ErrForm},
		{"a key below, then nothing", "\x43" + piece(0, "n", 1, "") + piece(0, "a", 1, ""), api.ErrForm},
		{"a long key, then a key below", "\x43" + piece(0, "b", 1, "") + piece(0, long(65537), 1, "") + piece(0, "a", 1, ""), api.ErrLong},
		{"a long value, then more shared than there is", "\x42" + piece(0, "b", 65538, long(65537)) + piece(2, "a", 1, ""), api.ErrLong},
		{"entries lack, a key below", "\x45" + piece(0, "b", 1, "") + piece(0, "a", 1, ""), api.ErrForm},
	} {
		wantRefused(t, x.name, x.body, x.want)
	}
}

// bodyOf answers the body of so many entries, told from the paper.
func bodyOf(list []api.Entry) string {
	s := paperPack(list)
	return s[:len(s)-4]
}

// P8.2: as many entries as may be, and more; their own faults come ahead, what is left behind comes behind.
func TestOpenOfMaxKeys(t *testing.T) {
	list := some(65538)
	wantTaken(t, "MaxKeys entries", bodyOf(list[:65536]), list[:65536]...)
	body := bodyOf(list[:65536])
	wantRefused(t, "MaxKeys entries and something left", body+"\x40", api.ErrTail)
	more := bodyOf(list[:65537])
	wantRefused(t, "one more", more, api.ErrLong)
	wantRefused(t, "two more", bodyOf(list), api.ErrLong)
	wantRefused(t, "one more and something left", more+"\x40", api.ErrLong)
	wantRefused(t, "one more, and it is cut off", more[:len(more)-1], api.ErrShort)
	wantRefused(t, "one more, and it isn't there", number(65537)+body[len(number(65536)):], api.ErrShort)
	wantRefused(t, "one more, and it is below", number(65537)+body[len(number(65536)):]+piece(0, "a", 1, ""), api.ErrForm)
	wantRefused(t, "one more, and it shares more than there is", number(65537)+body[len(number(65536)):]+piece(11, "a", 1, ""), api.ErrForm)
	wantRefused(t, "one more, with a long value", number(65537)+body[len(number(65536)):]+piece(4, "1", 65538, ""), api.ErrLong)
	wantRefused(t, "two more, the last one below", number(65538)+more[len(number(65537)):]+piece(0, "a", 1, ""), api.ErrForm)
	wantRefused(t, "two more, the last one lacks", number(65538)+more[len(number(65537)):], api.ErrShort)
}

// chain answers a body of so many entries whose keys share all but few of their MaxText bytes.
func chain(n int) string {
	w := six.New()
	w.Count(n)
	ahead := ""
	for i := range n {
		end := string([]byte{byte(i >> 16), byte(i >> 8), byte(i)})
		same := 65533 + alike(ahead, end)
		if i == 0 {
			w.Raw(piece(0, long(65533)+end, 0, ""))
		} else {
			w.Raw(piece(same, end[same-65533:], 0, ""))
		}
		ahead = end
	}
	return w.Bytes()
}

// P8.2: few bytes may tell of far more bytes of keys than there is room for: they are refused without all of those.
func TestOpenOfFarTooManyBytes(t *testing.T) {
	for _, x := range []struct {
		name, s string
		want    api.Errno
	}{
		{"many entries", crc.Put(chain(200000)), api.ErrLong},
		{"MaxKeys entries, something left", crc.Put(chain(65536) + "x"), api.ErrTail},
		{"an entry of MaxKeys lacks", crc.Put(number(65536) + chain(65535)[len(number(65535)):]), api.ErrShort},
		{"many entries, the last one the same", crc.Put(number(100001) + chain(100000)[len(number(100000)):] + piece(65536, "", 0, "")), api.ErrForm},
	} {
		var was, is runtime.MemStats
		runtime.ReadMemStats(&was)
		list, e := block.Open(x.s)
		runtime.ReadMemStats(&is)
		if len(list) != 0 || e != x.want {
			t.Errorf("%s: Open = %s, %d; want %d", x.name, told(list), e, x.want)
		}
		if room := is.TotalAlloc - was.TotalAlloc; room > 200<<20 {
			t.Errorf("%s: Open of %d bytes took %d bytes of room", x.name, len(x.s), room)
		}
	}
	list, e := block.Open(crc.Put(chain(300)))
	if e != api.OK || len(list) != 300 || list[299].Key != long(65533)+"\x00\x01\x2b" {
		t.Errorf("300 entries: Open = %d entries, %d", len(list), e)
	}
}

// P8.2: each beginning of a body, with a right sum behind it, ends too early; each byte behind one is left over.
func TestOpenOfMoreAndLess(t *testing.T) {
	for _, list := range packs() {
		body := bodyOf(list)
		for at := range len(body) {
			wantRefused(t, fmt.Sprintf("%d of %d bytes", at, len(body)), body[:at], api.ErrShort)
		}
		for b := range 256 {
			wantRefused(t, fmt.Sprintf("and %02x", b), body+string([]byte{byte(b)}), api.ErrTail)
		}
		wantRefused(t, "and itself", body+body, api.ErrTail)
	}
}

// packs are lists that may be packed.
func packs() [][]api.Entry {
	roll := dice(8)
	return [][]api.Entry{
		nil, {{}}, {{Gone: true}}, {{Key: "ab", Val: "x"}, {Key: "ac", Gone: true}}, {{}, {Key: "a", Val: long(70)}, {Key: long(70)}, {Key: long(71), Gone: true}},
		roll.rising(5), roll.rising(10), some(30),
	}
}

// P8.4, 2.3: where any byte of a Pack is another one, the sum tells it.
func TestOpenOfTurnedBytes(t *testing.T) {
	for _, list := range packs() {
		s := []byte(paperPack(list))
		for at := range s {
			for turn := 1; turn < 256; turn++ {
				s[at] ^= byte(turn)
				if got, e := block.Open(string(s)); len(got) != 0 || e != api.ErrSum {
					t.Fatalf("Open of %s, byte %d turned = %s, %d; want ErrSum", told(list), at, told(got), e)
				}
				s[at] ^= byte(turn)
			}
		}
	}
	s := []byte(paperPack(some(65536)))
	for at := 0; at < len(s); at += 1 + len(s)/20 {
		s[at] ^= 1
		if got, e := block.Open(string(s)); len(got) != 0 || e != api.ErrSum {
			t.Errorf("Open of MaxKeys entries, byte %d turned = %s, %d; want ErrSum", at, told(got), e)
		}
		s[at] ^= 1
	}
}

// place answers the place of the first entry whose key isn't below, one by one.
func place(list []api.Entry, key string) int {
	for i, x := range list {
		if strings.Compare(x.Key, key) >= 0 {
			return i
		}
	}
	return len(list)
}

// P8.3: keys below all, among, equal to and above those of the list.
func TestFind(t *testing.T) {
	list := []api.Entry{{Key: "b", Val: "z"}, {Key: "bb", Gone: true}, {Key: "d"}, {Key: "d\x00"}, {Key: "\xff"}}
	for key, want := range map[string]int{
		"": 0, "\x00": 0, "a": 0, "az": 0, "b": 0, "b\x00": 1, "ba": 1, "bb": 1, "bb\x00": 2, "bc": 2, "c": 2, "d": 2, "d\x00": 3,
		"d\x00\x00": 4, "e": 4, "\xfe\xff": 4, "\xff": 4, "\xff\x00": 5, "\xff\xff": 5, "z": 4,
	} {
		if n := block.Find(list, key); n != want {
			t.Errorf("Find(%q) = %d; want %d", key, n, want)
		}
	}
	for _, x := range []struct {
		list []api.Entry
		key  string
		want int
	}{
		{nil, "", 0}, {nil, "a", 0}, {[]api.Entry{{}}, "", 0}, {[]api.Entry{{}}, "\x00", 1}, {[]api.Entry{{}, {Key: "a"}}, "", 0}, {[]api.Entry{{}, {Key: "a"}}, "a", 1},
		{[]api.Entry{{Key: "m"}}, "", 0}, {[]api.Entry{{Key: "m"}}, "l", 0}, {[]api.Entry{{Key: "m"}}, "m", 0}, {[]api.Entry{{Key: "m"}}, "mm", 1}, {[]api.Entry{{Key: "m"}}, "n", 1},
		{[]api.Entry{{Key: long(65536)}}, long(65535), 0}, {[]api.Entry{{Key: long(65536)}}, long(65536), 0}, {[]api.Entry{{Key: long(65536)}}, long(65537), 1},
	} {
		if n := block.Find(x.list, x.key); n != x.want {
			t.Errorf("Find(%s, %s) = %d; want %d", told(x.list), short(x.key), n, x.want)
		}
	}
}

// P8.3: lists of every length up to some, and of MaxKeys; keys that are there, and such as stand between two.
func TestFindOfMany(t *testing.T) {
	list := some(65536)
	for n := range 70 {
		for i, x := range list[:n] {
			for key, want := range map[string]int{x.Key: i, x.Key + "\x00": i + 1, x.Key[:9]: i / 10 * 10, "": 0, "kez": n} {
				if at := block.Find(list[:n], key); at != want {
					t.Errorf("Find(%d entries, %q) = %d; want %d", n, key, at, want)
				}
			}
		}
	}
	for i, x := range list {
		if at := block.Find(list, x.Key); at != i {
			t.Fatalf("Find(MaxKeys entries, %q) = %d; want %d", x.Key, at, i)
		}
		if at := block.Find(list, x.Key+"x"); at != i+1 {
			t.Fatalf("Find(MaxKeys entries, %q) = %d; want %d", x.Key+"x", at, i+1)
		}
	}
	for seed := range 500 {
		roll := dice(seed)
		list := roll.rising(roll.roll(50))
		for range 50 {
			key := roll.key()
			if at, want := block.Find(list, key), place(list, key); at != want {
				t.Fatalf("Find(%s, %q) = %d; want %d", told(list), key, at, want)
			}
		}
	}
}

// P8.3: of lists whose keys don't rise some place from 0 to how many there are, the same one each time.
func TestFindAmongOthers(t *testing.T) {
	keys := []string{"", "a", "b", "c"}
	var look func(list []api.Entry)
	look = func(list []api.Entry) {
		for _, key := range []string{"", "\x00", "a", "aa", "b", "bb", "c", "d"} {
			n := block.Find(list, key)
			if n < 0 || n > len(list) || n != block.Find(slices.Clone(list), key) {
				t.Fatalf("Find(%s, %q) = %d, then %d", told(list), key, n, block.Find(list, key))
			}
		}
		if len(list) == 5 {
			return
		}
		for _, key := range keys {
			look(append(slices.Clone(list), api.Entry{Key: key}))
		}
	}
	look(nil)
	back := some(65537)
	slices.Reverse(back)
	for _, key := range []string{"", "key 000000", "key 032768", "key 065536", "z"} {
		if n := block.Find(back, key); n < 0 || n > len(back) {
			t.Errorf("Find among falling keys, %q: %d", key, n)
		}
	}
}

// What is handed in stays as it is, spare room included, and isn't kept.
func TestListStaysAsItIs(t *testing.T) {
	roll := dice(3)
	list := roll.rising(30)
	n := len(list) - 3
	was := slices.Clone(list)
	s, e := block.Pack(list[:n])
	block.Check(list[:n])
	block.Find(list[:n], "b")
	bad := append(slices.Clone(list), list[0])
	badWas := slices.Clone(bad)
	block.Check(bad)
	block.Pack(bad)
	block.Find(bad, "b")
	if e != api.OK || !slices.Equal(list, was) || !slices.Equal(bad, badWas) {
		t.Errorf("Pack = %d; the list became %s, the other one %s", e, told(list), told(bad))
	}
	clear(list)
	if got, e := block.Open(s); e != api.OK || !slices.Equal(got, was[:n]) {
		t.Errorf("Open behind a change of the list = %s, %d", told(got), e)
	}
	if again, e := block.Pack(was[:n]); e != api.OK || again != s {
		t.Errorf("Pack again = %s, %d", short(again), e)
	}
}

// What is handed out is new memory, spare room included.
func TestOpenHandsOutNewLists(t *testing.T) {
	for _, list := range packs() {
		s := paperPack(list)
		first, _ := block.Open(s)
		second, _ := block.Open(s)
		for i := range first[:cap(first)] {
			first[:cap(first)][i] = api.Entry{Key: "other", Val: "other"}
		}
		if !slices.Equal(second, list) {
			t.Errorf("behind a change of another answer there are %s; want %s", told(second), told(list))
		}
		if third, e := block.Open(s); e != api.OK || !slices.Equal(third, list) {
			t.Errorf("Open behind a change of its answer = %s, %d", told(third), e)
		}
	}
}
