package box_test

import (
	"fmt"
	"math"
	"slices"
	"strings"
	"testing"

	"silo/api"
	"silo/box"
	"silo/crc"
	"silo/disk"
)

// most is how many bytes a body has at most.
const most = 8192

// key answers a key of 32 unlike bytes.
func key(n byte) api.Key {
	var k api.Key
	for i := range k {
		k[i] = n + byte(i)*7
	}
	return k
}

// text answers a key's bytes.
func text(k api.Key) string { return string(k[:]) }

// long answers a text of so many bytes.
func long(n int) string { return strings.Repeat("m", n) }

// chunk answers a record that is no patch.
func chunk(n byte, body string) box.Record { return box.Record{Key: key(n), Body: body} }

// patch answers a record that is a patch.
func patch(n, base byte, body string) box.Record {
	return box.Record{Key: key(n), Base: key(base), Patch: true, Body: body}
}

// pack answers a record's bytes.
func pack(t *testing.T, r box.Record) string {
	t.Helper()
	s, e := box.Pack(r)
	if e != api.OK {
		t.Fatalf("Pack(%s) = %d", told(r), e)
	}
	return s
}

// packAll answers the bytes of records, one behind the other.
func packAll(t *testing.T, records ...box.Record) string {
	t.Helper()
	var s strings.Builder
	for _, r := range records {
		s.WriteString(pack(t, r))
	}
	return s.String()
}

// told tells a record in few words.
func told(r box.Record) string {
	return fmt.Sprintf("{key %x.., base %x.., %t, %d bytes %.20q}", r.Key[:3], r.Base[:3], r.Patch, len(r.Body), r.Body)
}

// wantOK wants a call to have gone well.
func wantOK(t *testing.T, name string, e api.Errno) {
	t.Helper()
	if e != api.OK {
		t.Fatalf("%s = %d", name, e)
	}
}

// wantOpen wants Open to answer a record.
func wantOpen(t *testing.T, name, s string, want box.Record) {
	t.Helper()
	if r, e := box.Open(s); r != want || e != api.OK {
		t.Errorf("%s: Open = %s, %d; want %s", name, told(r), e, told(want))
	}
}

// wantNoOpen wants an error of Open, and nothing beside it.
func wantNoOpen(t *testing.T, name, s string, want api.Errno) {
	t.Helper()
	if r, e := box.Open(s); r != (box.Record{}) || e != want {
		t.Errorf("%s: Open = %s, %d; want nothing, %d", name, told(r), e, want)
	}
}

// wantSplit wants Split to answer just these records, one behind the other from the first byte on.
func wantSplit(t *testing.T, name, s string, want ...box.Record) {
	t.Helper()
	items, n := box.Split(s)
	if len(items) != len(want) {
		t.Errorf("%s: Split = %d records, %d; want %d records", name, len(items), n, len(want))
		return
	}
	at := 0
	for i, r := range want {
		size := len(pack(t, r))
		if items[i] != (box.Item{At: at, Len: size, Record: r}) {
			t.Errorf("%s: the record %d of Split = %d, %d, %s; want %d, %d, %s", name, i, items[i].At, items[i].Len, told(items[i].Record), at, size, told(r))
		}
		at += size
	}
	if n != at {
		t.Errorf("%s: Split says %d bytes; want %d", name, n, at)
	}
}

// samples are records of each kind, with bodies of several lengths.
func samples() []box.Record {
	return []box.Record{
		{}, {Patch: true}, {Body: "ab"}, chunk(1, ""), chunk(2, "a"), patch(3, 4, ""), patch(5, 6, "a"), {Key: key(7), Patch: true, Body: "base zero"}, {Base: key(8), Patch: true, Body: "key zero"},
		patch(9, 9, "its own base"), chunk(10, "\x00"), chunk(11, "\x41\x00\xff\x80"), chunk(12, long(63)), patch(13, 14, long(64)), chunk(15, long(4096)), patch(16, 17, long(4097)), chunk(18, long(most)), patch(19, 20, long(most)),
	}
}

// The chapter's example, byte by byte.
func TestExample(t *testing.T) {
	parts := strings.Repeat("\x00", 32) + string([]byte{0x40, 0x42, 0x61, 0x62})
	sum := crc.Sum(parts)
	want := parts + string([]byte{byte(sum >> 24), byte(sum >> 16), byte(sum >> 8), byte(sum)})
	if s, e := box.Pack(box.Record{Body: "ab"}); s != want || len(s) != 40 || e != api.OK {
		t.Errorf("Pack = %x, %d; want %x", s, e, want)
	}
	wantOpen(t, "the example", want, box.Record{Body: "ab"})
	wantSplit(t, "the example", want, box.Record{Body: "ab"})
}

// P17.1: the key, the Count, of a patch the base, the body behind its length, the sum of all that.
func TestPack(t *testing.T) {
	for _, x := range []struct {
		r    box.Record
		want string
	}{
		{box.Record{}, text(api.Key{}) + "\x40\x40"},
		{box.Record{Patch: true}, text(api.Key{}) + "\x41" + text(api.Key{}) + "\x40"},
		{chunk(1, ""), text(key(1)) + "\x40\x40"},
		{chunk(1, "a"), text(key(1)) + "\x40\x41a"},
		{chunk(2, long(63)), text(key(2)) + "\x40\x7f" + long(63)},
		{chunk(2, long(64)), text(key(2)) + "\x40\x01\x40" + long(64)},
		{chunk(2, long(most-1)), text(key(2)) + "\x40\x01\x3f\x7f" + long(most-1)},
		{chunk(2, long(most)), text(key(2)) + "\x40\x02\x00\x40" + long(most)},
		{patch(3, 4, ""), text(key(3)) + "\x41" + text(key(4)) + "\x40"},
		{patch(3, 4, "\x00\xff"), text(key(3)) + "\x41" + text(key(4)) + "\x42\x00\xff"},
		{patch(5, 5, "same"), text(key(5)) + "\x41" + text(key(5)) + "\x44same"},
		{patch(6, 7, long(most)), text(key(6)) + "\x41" + text(key(7)) + "\x02\x00\x40" + long(most)},
		{box.Record{Key: key(8), Patch: true, Body: "x"}, text(key(8)) + "\x41" + text(api.Key{}) + "\x41x"},
	} {
		if s, e := box.Pack(x.r); s != crc.Put(x.want) || e != api.OK {
			t.Errorf("Pack(%s) = %.80x, %d; want %.80x, and the sum", told(x.r), s, e, x.want)
		}
	}
}

// P17.1: a body of more than 8192 bytes, and a base of what is no patch; where both apply, it is ErrLong.
func TestPackRefused(t *testing.T) {
	last := api.Key{31: 1}
	for _, x := range []struct {
		name string
		r    box.Record
		want api.Errno
	}{
		{"one byte too many", chunk(1, long(most+1)), api.ErrLong},
		{"one byte too many of a patch", patch(1, 2, long(most+1)), api.ErrLong},
		{"many bytes too many", chunk(1, long(1<<20)), api.ErrLong},
		{"a base", box.Record{Key: key(1), Base: key(2), Body: "a"}, api.ErrArg},
		{"a base that is the key", box.Record{Key: key(1), Base: key(1), Body: "a"}, api.ErrArg},
		{"a base and no body", box.Record{Base: key(2)}, api.ErrArg},
		{"a base whose first byte alone isn't 0", box.Record{Base: api.Key{1}, Body: "a"}, api.ErrArg},
		{"a base whose last byte alone isn't 0", box.Record{Base: last, Body: "a"}, api.ErrArg},
		{"a base and the longest body", box.Record{Base: key(2), Body: long(most)}, api.ErrArg},
		{"a base and one byte too many", box.Record{Base: key(2), Body: long(most + 1)}, api.ErrLong},
		{"a base and one byte too many of the zero key", box.Record{Base: last, Body: long(most + 1)}, api.ErrLong},
	} {
		if s, e := box.Pack(x.r); s != "" || e != x.want {
			t.Errorf("%s: Pack = %.20x, %d; want nothing, %d", x.name, s, e, x.want)
		}
	}
}

// P17.2: Open of what Pack answers.
func TestOpen(t *testing.T) {
	for _, r := range samples() {
		wantOpen(t, "what Pack answers", pack(t, r), r)
	}
}

// P17.2: what Pack answers, cut short at each place: with a wrong sum it is the sum's error, with the right one ErrShort.
func TestOpenOfLess(t *testing.T) {
	// None of the zero key: its first four bytes are the sum of nothing.
	for _, r := range []box.Record{chunk(1, "ab"), chunk(2, ""), patch(3, 4, ""), patch(5, 6, "cde"), chunk(7, long(70)), patch(8, 9, long(130))} {
		s := pack(t, r)
		for n := range len(s) {
			want := api.ErrSum
			if n < 4 {
				want = api.ErrShort
			}
			wantNoOpen(t, fmt.Sprintf("the first %d bytes of %s", n, told(r)), s[:n], want)
		}
		parts := s[:len(s)-4]
		for n := range len(parts) {
			wantNoOpen(t, fmt.Sprintf("the first %d bytes of %s, with their sum", n, told(r)), crc.Put(parts[:n]), api.ErrShort)
		}
	}
}

// P17.2: what Pack answers with one byte that is another one: with the old sum it is ErrSum.
func TestOpenOfOtherByte(t *testing.T) {
	for _, r := range []box.Record{{}, chunk(1, "ab"), patch(2, 3, "c"), patch(4, 5, "")} {
		s := pack(t, r)
		for at := range len(s) {
			for other := range 256 {
				if byte(other) == s[at] {
					continue
				}
				bad := s[:at] + string([]byte{byte(other)}) + s[at+1:]
				wantNoOpen(t, fmt.Sprintf("%s with the byte %d as %x", told(r), at, other), bad, api.ErrSum)
			}
		}
	}
}

// P17.2: any byte as the Count, behind the right sum: 40 and 41 alone are none and one.
func TestOpenOfCounts(t *testing.T) {
	k, b := key(1), key(2)
	for c := range 256 {
		mark := string([]byte{byte(c)})
		name := fmt.Sprintf("the Count %x", c)
		s := crc.Put(text(k) + mark + "\x41x")
		switch {
		case c == 0x40:
			wantOpen(t, name, s, box.Record{Key: k, Body: "x"})
		case c == 0x41:
			wantNoOpen(t, name, s, api.ErrShort)
			wantOpen(t, name, crc.Put(text(k)+mark+text(b)+"\x41x"), box.Record{Key: k, Base: b, Patch: true, Body: "x"})
		default:
			// A byte below 40 and the 41 behind it are one Count, above 1; that of a first byte 0 isn't in its form.
			wantNoOpen(t, name, s, api.ErrForm)
			wantNoOpen(t, name+" and a base", crc.Put(text(k)+mark+text(b)+"\x41x"), api.ErrForm)
		}
	}
	for _, mark := range []string{"\x42", "\x7f", "\x01\x40", "\x01\x41", "\x3f\x3f\x7f", "\x1f\x3f\x3f\x3f\x3f\x3f\x3f\x3f\x3f\x3f\x7f", "\x00\x40", "\x00\x41", "\x80", "\xbf", "\x01\x80", "\xc0", "\xff"} {
		for _, rest := range []string{"", "\x40", text(b), text(b) + "\x40", text(b) + "\x41", text(b) + "\x40xyz", "\x02\x00\x41" + long(most+1)} {
			wantNoOpen(t, fmt.Sprintf("the Count %x and %d bytes", mark, len(rest)), crc.Put(text(k)+mark+rest), api.ErrForm)
		}
	}
}

// P17.2: what is refused, and which error is told where several could be; with a wrong sum it is ErrSum always.
func TestOpenRefused(t *testing.T) {
	k, b := text(key(1)), text(key(2))
	for _, x := range []struct {
		name, parts string
		want        api.Errno
	}{
		{"nothing", "", api.ErrShort},
		{"a byte", "\x40", api.ErrShort},
		{"31 bytes", k[:31], api.ErrShort},
		{"a key alone", k, api.ErrShort},
		{"a Count that doesn't end", k + "\x01", api.ErrShort},
		{"a Count that doesn't end and begins with 0", k + "\x00", api.ErrForm},
		{"no body", k + "\x40", api.ErrShort},
		{"no base", k + "\x41", api.ErrShort},
		{"31 bytes of a base", k + "\x41" + b[:31], api.ErrShort},
		{"a base and no body", k + "\x41" + b, api.ErrShort},
		{"a length that doesn't end", k + "\x40\x02", api.ErrShort},
		{"a length that isn't in its form", k + "\x40\x00\x41x", api.ErrForm},
		{"a length below 0", k + "\x40\x80", api.ErrForm},
		{"a length that is no number", k + "\x40\xc0", api.ErrForm},
		{"a length of a patch that isn't in its form", k + "\x41" + b + "\x00\x41x", api.ErrForm},
		{"less than the length tells", k + "\x40\x42x", api.ErrShort},
		{"less than the length tells of a patch", k + "\x41" + b + "\x42x", api.ErrShort},
		{"less than the length tells, which is too long", k + "\x40\x02\x00\x41" + long(most), api.ErrShort},
		{"far less than the length tells", k + "\x40\x1f\x3f\x3f\x3f\x3f\x3f\x3f\x3f\x3f\x7fx", api.ErrShort},
		{"a length of too many groups", k + "\x40\x08\x00\x00\x00\x00\x00\x00\x00\x00\x00\x40x", api.ErrForm},
		{"a body that is too long", k + "\x40\x02\x00\x41" + long(most+1), api.ErrLong},
		{"a body that is too long of a patch", k + "\x41" + b + "\x02\x00\x41" + long(most+1), api.ErrLong},
		{"a body that is far too long", k + "\x40\x04\x00\x00\x40" + long(1<<20), api.ErrLong},
		{"a body that is too long, and something left", k + "\x40\x02\x00\x41" + long(most+2), api.ErrLong},
		{"a body of a patch that is too long, and something left", k + "\x41" + b + "\x02\x00\x41" + long(most+9), api.ErrLong},
		{"the longest body, and something left", k + "\x40\x02\x00\x40" + long(most+1), api.ErrTail},
		{"a byte left", k + "\x40\x41xy", api.ErrTail},
		{"a byte 0 left", k + "\x40\x40\x00", api.ErrTail},
		{"a base left", k + "\x40\x40" + b, api.ErrTail},
		{"a byte left of a patch", k + "\x41" + b + "\x41xy", api.ErrTail},
		{"a sum left", crc.Put(k + "\x40\x41x"), api.ErrTail},
		{"a record left", k + "\x40\x41x" + crc.Put(k+"\x40\x41x"), api.ErrTail},
	} {
		wantNoOpen(t, x.name, crc.Put(x.parts), x.want)
		if x.parts == "" {
			continue
		}
		s := []byte(crc.Put(x.parts))
		s[len(s)-1] ^= 1
		wantNoOpen(t, x.name+", with a wrong sum", string(s), api.ErrSum)
		s[len(s)-1] ^= 1
		s[0] ^= 128
		wantNoOpen(t, x.name+", with another first byte", string(s), api.ErrSum)
	}
}

// P17.2: bytes that are no records at all.
func TestOpenOfAnyBytes(t *testing.T) {
	for s, want := range map[string]api.Errno{
		"": api.ErrShort, "\x00": api.ErrShort, "abc": api.ErrShort, "\x00\x00\x00\x00": api.ErrShort, "\x00\x00\x00\x01": api.ErrSum, "any text": api.ErrSum,
		strings.Repeat("\x00", 38): api.ErrSum, strings.Repeat("\x40", 100): api.ErrSum, long(9000): api.ErrSum,
	} {
		wantNoOpen(t, fmt.Sprintf("%d bytes %.8x", len(s), s), s, want)
	}
}

// P17.3: nothing has no records.
func TestSplitOfNothing(t *testing.T) {
	wantSplit(t, "nothing", "")
}

// P17.3: records one behind the other.
func TestSplitOfRecords(t *testing.T) {
	all := samples()
	wantSplit(t, "all", packAll(t, all...), all...)
	for _, r := range all {
		wantSplit(t, "one", pack(t, r), r)
		wantSplit(t, "the same one again and again", packAll(t, r, r, r), r, r, r)
	}
	for i := range all {
		wantSplit(t, "two", packAll(t, all[i], all[len(all)-1-i]), all[i], all[len(all)-1-i])
	}
	inner := chunk(1, packAll(t, chunk(2, "inner"), patch(3, 4, "")))
	wantSplit(t, "records in a record", packAll(t, inner, inner), inner, inner)
}

// P17.3: as many records as there are.
func TestSplitOfManyRecords(t *testing.T) {
	var list []box.Record
	for i := range 5000 {
		list = append(list, chunk(byte(i), fmt.Sprint("body ", i)), patch(byte(i), byte(i+1), fmt.Sprint(i)))
	}
	wantSplit(t, "many", packAll(t, list...), list...)
}

// P17.3: cut short at each place, there are the records that are there wholly.
func TestSplitOfLess(t *testing.T) {
	list := []box.Record{chunk(1, "ab"), {}, patch(2, 3, long(70)), {Patch: true}, chunk(4, pack(t, chunk(5, "z"))), patch(6, 7, "")}
	s := packAll(t, list...)
	there, begin := 0, 0
	for cut := range len(s) + 1 {
		if there < len(list) && cut == begin+len(pack(t, list[there])) {
			begin = cut
			there++
		}
		wantSplit(t, fmt.Sprintf("the first %d bytes", cut), s[:cut], list[:there]...)
	}
	if there != len(list) {
		t.Errorf("%d records were whole at the end", there)
	}
}

// P17.3: where a byte is another one, it ends with the record ahead of that byte's, whichever it is, also where whole ones stand behind it.
func TestSplitOfOtherBytes(t *testing.T) {
	list := []box.Record{chunk(1, "first"), patch(2, 3, "middle"), {}, chunk(4, "last")}
	s := packAll(t, list...)
	begin := 0
	for i, r := range list {
		end := begin + len(pack(t, r))
		for at := begin; at < end; at++ {
			for _, turn := range []byte{1, 2, 64, 128, 255} {
				bad := s[:at] + string([]byte{s[at] ^ turn}) + s[at+1:]
				wantSplit(t, fmt.Sprintf("the byte %d turned by %x", at, turn), bad, list[:i]...)
			}
		}
		begin = end
	}
}

// P17.3: a record that is cut short, that lacks a byte, or has one too many, first, in the middle and last.
func TestSplitOfMovedBytes(t *testing.T) {
	list := []box.Record{chunk(1, "first"), patch(2, 3, "middle"), chunk(4, "last")}
	for i, r := range list {
		ahead, behind := packAll(t, list[:i]...), packAll(t, list[i+1:]...)
		s := pack(t, r)
		for at := range len(s) {
			name := fmt.Sprintf("the record %d at the byte %d: ", i, at)
			wantSplit(t, name+"cut short", ahead+s[:at], list[:i]...)
			if at > 0 {
				wantSplit(t, name+"cut short, and others behind it", ahead+s[:at]+behind+"\x00", list[:i]...)
			}
			wantSplit(t, name+"without it", ahead+s[:at]+s[at+1:]+behind, list[:i]...)
			wantSplit(t, name+"with one more", ahead+s[:at]+"\x07"+s[at:]+behind, list[:i]...)
		}
	}
}

// P17.3: bytes that are no record, though some of them bear a right sum: alone, behind records, and with records behind them.
func TestSplitOfNoRecords(t *testing.T) {
	k, b := text(key(1)), text(key(2))
	one, two := chunk(3, "one"), patch(4, 5, "two")
	for _, s := range []string{
		"\x00", "x", "\x40\x40\x40\x40", "any text", long(100), strings.Repeat("\x00", 38), strings.Repeat("\x00", 100), strings.Repeat("\x40", 100), strings.Repeat("\xff", 100),
		crc.Put(""), crc.Put("\x40"), crc.Put(k), crc.Put(k + "\x40"), crc.Put(k + "\x41"), crc.Put(k + "\x41" + b),
		crc.Put(k + "\x42" + b + "\x40"), crc.Put(k + "\x42\x40"), crc.Put(k + "\x80\x40"), crc.Put(k + "\x00\x40\x40"), crc.Put(k + "\x00\x41" + b + "\x40"),
		crc.Put(k + "\x40\x80"), crc.Put(k + "\x40\xc0"), crc.Put(k + "\x40\x00\x41x"), crc.Put(k + "\x40\x42x"), crc.Put(k + "\x40\x41xy"),
		k + "\x40\x40", k + "\x40\x44abcd", k + "\x41" + b + "\x40\x00\x00\x00", k + "\x40\x1f\x3f\x3f\x3f\x3f\x3f\x3f\x3f\x3f\x7fx",
	} {
		name := fmt.Sprintf("%d bytes %.50x", len(s), s)
		wantSplit(t, name, s)
		wantSplit(t, name+" behind records", packAll(t, one, two)+s, one, two)
		wantSplit(t, name+" ahead of records", s+packAll(t, one, two))
		wantSplit(t, name+" between records", pack(t, one)+s+pack(t, two), one)
	}
}

// P17.3: a body that is too long is no record's, though its sum is right.
func TestSplitOfTooLong(t *testing.T) {
	longest := chunk(1, long(most))
	for _, over := range []string{
		crc.Put(text(key(2)) + "\x40\x02\x00\x41" + long(most+1)),
		crc.Put(text(key(2)) + "\x41" + text(key(3)) + "\x02\x00\x41" + long(most+1)),
		crc.Put(text(key(2)) + "\x40\x04\x00\x00\x40" + long(1<<20)),
	} {
		wantNoOpen(t, "too long", over, api.ErrLong)
		wantSplit(t, "too long", over)
		wantSplit(t, "too long, and others", over+packAll(t, longest, box.Record{}))
		wantSplit(t, "too long in the middle", pack(t, longest)+over+pack(t, longest), longest)
	}
}

// P17.3: two answers share no memory, spare room included.
func TestSplitIsNew(t *testing.T) {
	list := []box.Record{chunk(1, "a"), patch(2, 3, "b"), chunk(4, "c")}
	s := packAll(t, list...)
	one, _ := box.Split(s)
	two, _ := box.Split(s)
	want := slices.Clone(two)
	one[0] = box.Item{At: 9}
	one = append(one[:1], one[0], one[0], one[0])
	if !slices.Equal(two, want) || len(one) != 4 {
		t.Errorf("what was written into one answer is seen in another: %v", two)
	}
	wantSplit(t, "again", s, list...)
}

// begun answers a box in the file 1 of a new disk's tier Hot.
func begun(t *testing.T, hot int) (*disk.Disk, *box.Box) {
	t.Helper()
	d, e := disk.New(hot, 0)
	wantOK(t, "New", e)
	b, e := box.Begin(d, api.Hot, 1)
	wantOK(t, "Begin", e)
	return d, b
}

// wantBox wants a box to tell its file and its size.
func wantBox(t *testing.T, name string, b *box.Box, file, size int) {
	t.Helper()
	if b.File() != file || b.Size() != size {
		t.Errorf("%s: File = %d, Size = %d; want %d, %d", name, b.File(), b.Size(), file, size)
	}
}

// wantBytes wants a file to have just these bytes.
func wantBytes(t *testing.T, name string, d *disk.Disk, file int, want string) {
	t.Helper()
	size, _, e := d.Size(file)
	wantOK(t, name+": Size", e)
	if s, e := d.Read(file, 0, size); s != want || e != api.OK {
		t.Errorf("%s: the file has %d bytes %.80x, %d; want %d bytes %.80x", name, len(s), s, e, len(want), want)
	}
}

// wantAdd wants Add to go well, at a place of a file.
func wantAdd(t *testing.T, b *box.Box, r box.Record, at int) api.Place {
	t.Helper()
	want := api.Place{File: b.File(), At: at, Len: len(pack(t, r))}
	p, e := b.Add(r)
	if p != want || e != api.OK {
		t.Fatalf("Add(%s) = %v, %d; want %v", told(r), p, e, want)
	}
	return p
}

// wantNoAdd wants an error of Add, nothing beside it, and a box that tells what it told.
func wantNoAdd(t *testing.T, name string, b *box.Box, r box.Record, want api.Errno) {
	t.Helper()
	file, size := b.File(), b.Size()
	if p, e := b.Add(r); p != (api.Place{}) || e != want {
		t.Errorf("%s: Add = %v, %d; want nothing, %d", name, p, e, want)
	}
	wantBox(t, name, b, file, size)
}

// wantRead wants Read to answer a record.
func wantRead(t *testing.T, name string, d *disk.Disk, p api.Place, want box.Record) {
	t.Helper()
	if r, e := box.Read(d, p); r != want || e != api.OK {
		t.Errorf("%s: Read(%v) = %s, %d; want %s", name, p, told(r), e, told(want))
	}
}

// wantNoRead wants an error of Read, and nothing beside it.
func wantNoRead(t *testing.T, name string, d *disk.Disk, p api.Place, want api.Errno) {
	t.Helper()
	if r, e := box.Read(d, p); r != (box.Record{}) || e != want {
		t.Errorf("%s: Read(%v) = %s, %d; want nothing, %d", name, p, told(r), e, want)
	}
}

// P17.4: a box in each tier: an empty file, by one change, that isn't sure.
func TestBegin(t *testing.T) {
	for _, tier := range []api.Tier{api.Hot, api.Cold} {
		for _, file := range []int{1, 7, math.MaxInt} {
			d, _ := disk.New(2, 2)
			b, e := box.Begin(d, tier, file)
			if b == nil || e != api.OK {
				t.Fatalf("Begin(%d, %d) = %v, %d", tier, file, b, e)
			}
			wantBox(t, "a new box", b, file, 0)
			if d.Steps() != 1 || !slices.Equal(d.Files(), []int{file}) {
				t.Errorf("Begin(%d, %d): %d changes, files %v", tier, file, d.Steps(), d.Files())
			}
			if size, at, e := d.Size(file); size != 0 || at != tier || e != api.OK {
				t.Errorf("Begin(%d, %d): the disk's Size = %d, %d, %d", tier, file, size, at, e)
			}
			d.Back()
			if len(d.Files()) != 0 {
				t.Errorf("Begin(%d, %d): the file was sure", tier, file)
			}
		}
	}
}

// P17.4: the disk's errors of making the file; then there is no box, and nothing has changed.
func TestBeginRefused(t *testing.T) {
	for _, x := range []struct {
		name string
		tier api.Tier
		file int
		want api.Errno
	}{
		{"a tier below", -1, 3, api.ErrArg},
		{"a tier above", 2, 3, api.ErrArg},
		{"a file 0", api.Hot, 0, api.ErrArg},
		{"a file below 0", api.Hot, -5, api.ErrArg},
		{"the least file", api.Hot, math.MinInt, api.ErrArg},
		{"a file that is there", api.Hot, 1, api.ErrThere},
		{"a file that is there, in the other tier", api.Cold, 1, api.ErrThere},
		{"a tier that is full", api.Cold, 3, api.ErrFull},
		{"a file that is there, a tier that is full", api.Cold, 2, api.ErrThere},
	} {
		d, _ := disk.New(5, 1)
		wantOK(t, "Make", d.Make(api.Hot, 1))
		wantOK(t, "Add", d.Add(1, "there"))
		wantOK(t, "Make", d.Make(api.Cold, 2))
		if b, e := box.Begin(d, x.tier, x.file); b != nil || e != x.want {
			t.Errorf("%s: Begin = %v, %d; want no box, %d", x.name, b, e, x.want)
		}
		if d.Steps() != 3 || !slices.Equal(d.Files(), []int{1, 2}) {
			t.Errorf("%s: %d changes, files %v", x.name, d.Steps(), d.Files())
		}
		wantBytes(t, x.name, d, 1, "there")
	}
}

// P17.4: a disk that is down, one whose power goes just then, and none.
func TestBeginDown(t *testing.T) {
	d, _ := disk.New(5, 5)
	d.Arm(0)
	for _, name := range []string{"the power goes", "the power is gone"} {
		if b, e := box.Begin(d, api.Hot, 1); b != nil || e != api.ErrDown {
			t.Errorf("%s: Begin = %v, %d", name, b, e)
		}
	}
	for _, none := range []*disk.Disk{d, nil} {
		if b, e := box.Begin(none, api.Hot, 1); b != nil || e != api.ErrDown {
			t.Errorf("Begin = %v, %d", b, e)
		}
		if b, e := box.Begin(none, -1, 0); b != nil || e != api.ErrDown {
			t.Errorf("Begin of nothing = %v, %d", b, e)
		}
	}
	d.Back()
	if b, e := box.Begin(d, api.Hot, 1); b == nil || e != api.OK {
		t.Errorf("Begin with the power back = %v, %d", b, e)
	}
}

// P17.4: each record stands at the end of the file, by one change; the box counts its bytes.
func TestAdd(t *testing.T) {
	for _, tier := range []api.Tier{api.Hot, api.Cold} {
		d, _ := disk.New(2000, 2000)
		b, e := box.Begin(d, tier, 3)
		wantOK(t, "Begin", e)
		all, at := "", 0
		var places []api.Place
		for i, r := range samples() {
			wantBox(t, "ahead of Add", b, 3, at)
			places = append(places, wantAdd(t, b, r, at))
			all += pack(t, r)
			at = len(all)
			wantBox(t, "behind Add", b, 3, at)
			wantBytes(t, "behind Add", d, 3, all)
			if d.Steps() != 2+i {
				t.Errorf("%d changes behind %d Adds", d.Steps(), i+1)
			}
		}
		for i, r := range samples() {
			wantRead(t, "added", d, places[i], r)
		}
		wantSplit(t, "the file", all, samples()...)
		d.Back()
		if len(d.Files()) != 0 {
			t.Errorf("what was added is sure")
		}
	}
}

// P17.4: Pack's errors, which come ahead of the disk's; nothing is added, and the next Add stands where it would have.
func TestAddRefused(t *testing.T) {
	d, b := begun(t, 9)
	wantAdd(t, b, chunk(1, "a"), 0)
	bad := []struct {
		r    box.Record
		want api.Errno
	}{
		{chunk(2, long(most+1)), api.ErrLong},
		{box.Record{Base: key(3)}, api.ErrArg},
		{box.Record{Base: key(3), Body: long(most + 1)}, api.ErrLong},
		{patch(2, 3, long(most+1)), api.ErrLong},
	}
	for _, x := range bad {
		wantNoAdd(t, "what may not be", b, x.r, x.want)
		if d.Steps() != 2 {
			t.Errorf("%d changes behind an Add that was refused", d.Steps())
		}
	}
	wantBytes(t, "behind refusals", d, 1, pack(t, chunk(1, "a")))
	wantAdd(t, b, chunk(4, "b"), len(pack(t, chunk(1, "a"))))
	d.Arm(0)
	for _, x := range bad {
		wantNoAdd(t, "what may not be, ahead of the power's going", b, x.r, x.want)
	}
	if d.Down() {
		t.Error("an Add that was refused let the power go")
	}
	wantNoAdd(t, "the power goes", b, chunk(5, "c"), api.ErrDown)
	for _, x := range bad {
		wantNoAdd(t, "what may not be, without power", b, x.r, x.want)
	}
	wantNoAdd(t, "without power", b, chunk(5, "c"), api.ErrDown)
}

// P17.4: a disk that has no room: the box stays as it was, and takes what there is room for.
func TestAddFull(t *testing.T) {
	d, b := begun(t, 3) // room for 128 bytes
	first, much, fits, last := chunk(1, ""), chunk(2, long(60)), chunk(3, long(50)), chunk(4, "")
	wantAdd(t, b, first, 0)
	for range 2 {
		wantNoAdd(t, "too much", b, much, api.ErrFull)
	}
	wantBytes(t, "behind what was too much", d, 1, pack(t, first))
	p := wantAdd(t, b, fits, 38)
	wantBox(t, "full", b, 1, 126)
	wantNoAdd(t, "full", b, last, api.ErrFull)
	wantRead(t, "full", d, p, fits)
	if d.Steps() != 3 {
		t.Errorf("%d changes", d.Steps())
	}
	wantOK(t, "Sync of a box that is full", b.Sync())
}

// P17.4: the tier is full by the file of another one, and has room again.
func TestAddFullByOthers(t *testing.T) {
	d, b := begun(t, 4)
	wantOK(t, "Make", d.Make(api.Hot, 2))
	wantOK(t, "Add", d.Add(2, long(128)))
	wantNoAdd(t, "full", b, chunk(1, "a"), api.ErrFull)
	wantOK(t, "Drop", d.Drop(2))
	wantAdd(t, b, chunk(1, "a"), 0)
}

// P17.4: the power goes at an Add: the box tells what it told, also behind further Adds; what was sure is read behind it, and the next record stands behind what was kept.
func TestAddDown(t *testing.T) {
	one, two, three := chunk(1, "one"), patch(2, 3, "two"), chunk(4, "three")
	for kept := range len(pack(t, two)) + 1 {
		d, b := begun(t, 9)
		p := wantAdd(t, b, one, 0)
		wantOK(t, "Sync", b.Sync())
		d.Arm(0)
		for range 2 {
			wantNoAdd(t, "the power goes", b, two, api.ErrDown)
			wantNoRead(t, "without power", d, p, api.ErrDown)
		}
		if d.Steps() != 3 {
			t.Errorf("%d changes", d.Steps())
		}
		d.Back(api.Keep{File: 1, Bytes: kept})
		wantBox(t, "the power is back", b, 1, len(pack(t, one)))
		wantBytes(t, "the power is back", d, 1, pack(t, one)+pack(t, two)[:kept])
		wantRead(t, "what was sure", d, p, one)
		q := wantAdd(t, b, three, len(pack(t, one))+kept)
		wantRead(t, "behind what was kept", d, q, three)
		wantBox(t, "behind what was kept", b, 1, len(pack(t, one))+len(pack(t, three)))
	}
}

// P17.4: what wasn't sure is gone behind a loss of power; the next record stands at the file's end.
func TestAddBehindLoss(t *testing.T) {
	d, b := begun(t, 9)
	wantOK(t, "Sync", b.Sync())
	lost := wantAdd(t, b, chunk(1, "lost"), 0)
	d.Back()
	wantNoRead(t, "lost", d, lost, api.ErrArg)
	p := wantAdd(t, b, chunk(2, "next one"), 0)
	wantRead(t, "the next one", d, p, chunk(2, "next one"))
	wantNoRead(t, "lost", d, lost, api.ErrSum)
	d.Back()
	if e := b.Sync(); e != api.OK {
		t.Errorf("Sync = %d", e)
	}
}

// P17.4: a file that is gone, and one whose end others have moved.
func TestAddToOthersFile(t *testing.T) {
	d, b := begun(t, 9)
	wantOK(t, "Add of others", d.Add(1, "other bytes"))
	p := wantAdd(t, b, chunk(1, "a"), 11)
	wantRead(t, "behind other bytes", d, p, chunk(1, "a"))
	wantBox(t, "behind other bytes", b, 1, len(pack(t, chunk(1, "a"))))
	wantOK(t, "Drop", d.Drop(1))
	wantNoAdd(t, "the file is gone", b, chunk(1, "a"), api.ErrNone)
	wantNoRead(t, "the file is gone", d, p, api.ErrNone)
	if e := b.Sync(); e != api.ErrNone {
		t.Errorf("Sync of a file that is gone = %d", e)
	}
}

// P17.4: two boxes on one disk don't know of one another.
func TestTwoBoxes(t *testing.T) {
	d, _ := disk.New(50, 50)
	hot, e := box.Begin(d, api.Hot, 1)
	wantOK(t, "Begin", e)
	cold, e := box.Begin(d, api.Cold, 2)
	wantOK(t, "Begin", e)
	at := [2]int{}
	for i := range byte(10) {
		r, s := chunk(i, "hot"), patch(i, i+1, "cold one")
		p, q := wantAdd(t, hot, r, at[0]), wantAdd(t, cold, s, at[1])
		at[0] += p.Len
		at[1] += q.Len
		wantRead(t, "hot", d, p, r)
		wantRead(t, "cold", d, q, s)
	}
	wantBox(t, "hot", hot, 1, at[0])
	wantBox(t, "cold", cold, 2, at[1])
	wantOK(t, "Sync", cold.Sync())
	d.Back()
	if !slices.Equal(d.Files(), []int{2}) {
		t.Errorf("files %v behind a loss of power", d.Files())
	}
}

// P17.4: by Sync, which is one change, what was added is sure; of none it makes the file sure.
func TestSync(t *testing.T) {
	d, b := begun(t, 9)
	wantOK(t, "Sync of none", b.Sync())
	if d.Steps() != 2 {
		t.Errorf("%d changes behind Sync of none", d.Steps())
	}
	d.Back()
	wantBytes(t, "none", d, 1, "")
	p := wantAdd(t, b, chunk(1, "a"), 0)
	q := wantAdd(t, b, chunk(2, "b"), p.Len)
	wantOK(t, "Sync", b.Sync())
	if d.Steps() != 5 {
		t.Errorf("%d changes behind Sync", d.Steps())
	}
	wantBox(t, "behind Sync", b, 1, p.Len+q.Len)
	wantAdd(t, b, chunk(3, "c"), p.Len+q.Len)
	d.Back()
	wantRead(t, "sure", d, p, chunk(1, "a"))
	wantRead(t, "sure", d, q, chunk(2, "b"))
	wantBytes(t, "sure", d, 1, packAll(t, chunk(1, "a"), chunk(2, "b")))
}

// P17.4: the power goes at a Sync: the disk's error, and nothing is sure by it.
func TestSyncDown(t *testing.T) {
	d, b := begun(t, 9)
	wantAdd(t, b, chunk(1, "a"), 0)
	d.Arm(0)
	for range 2 {
		if e := b.Sync(); e != api.ErrDown || !d.Down() {
			t.Errorf("Sync = %d", e)
		}
		wantBox(t, "the power is gone", b, 1, len(pack(t, chunk(1, "a"))))
	}
	d.Back()
	if len(d.Files()) != 0 {
		t.Errorf("files %v", d.Files())
	}
	if e := b.Sync(); e != api.ErrNone {
		t.Errorf("Sync of a file that is gone = %d", e)
	}
}

// P17.5: places that Add didn't answer: the disk's errors, and Open's.
func TestReadOfOtherPlaces(t *testing.T) {
	d, b := begun(t, 300)
	one, two := chunk(1, "one"), patch(2, 3, long(most))
	p := wantAdd(t, b, one, 0)
	q := wantAdd(t, b, two, p.Len)
	all := p.Len + q.Len
	steps := d.Steps()
	for _, x := range []struct {
		name string
		p    api.Place
		want api.Errno
	}{
		{"no file", api.Place{File: 2, At: 0, Len: p.Len}, api.ErrNone},
		{"a file 0", api.Place{File: 0, At: 0, Len: p.Len}, api.ErrNone},
		{"the zero place", api.Place{}, api.ErrNone},
		{"a file below 0", api.Place{File: -1, At: 0, Len: p.Len}, api.ErrNone},
		{"no file and a place below 0", api.Place{File: 2, At: -1, Len: -1}, api.ErrNone},
		{"a place below 0", api.Place{File: 1, At: -1, Len: p.Len}, api.ErrArg},
		{"the least place", api.Place{File: 1, At: math.MinInt, Len: p.Len}, api.ErrArg},
		{"fewer than no bytes", api.Place{File: 1, At: 0, Len: -1}, api.ErrArg},
		{"the least number of bytes", api.Place{File: 1, At: 0, Len: math.MinInt}, api.ErrArg},
		{"one byte beyond the end", api.Place{File: 1, At: p.Len, Len: q.Len + 1}, api.ErrArg},
		{"a place beyond the end", api.Place{File: 1, At: all + 1, Len: 0}, api.ErrArg},
		{"the greatest numbers", api.Place{File: 1, At: math.MaxInt, Len: math.MaxInt}, api.ErrArg},
		{"the greatest number of bytes", api.Place{File: 1, At: 1, Len: math.MaxInt}, api.ErrArg},
		{"no bytes", api.Place{File: 1, At: 0, Len: 0}, api.ErrShort},
		{"no bytes at the end", api.Place{File: 1, At: all, Len: 0}, api.ErrShort},
		{"three bytes", api.Place{File: 1, At: 5, Len: 3}, api.ErrShort},
		{"a byte less", api.Place{File: 1, At: 0, Len: p.Len - 1}, api.ErrSum},
		{"a byte more", api.Place{File: 1, At: 0, Len: p.Len + 1}, api.ErrSum},
		{"a byte later", api.Place{File: 1, At: 1, Len: p.Len}, api.ErrSum},
		{"a byte sooner", api.Place{File: 1, At: p.Len - 1, Len: q.Len}, api.ErrSum},
		{"both", api.Place{File: 1, At: 0, Len: all}, api.ErrSum},
	} {
		wantNoRead(t, x.name, d, x.p, x.want)
	}
	wantRead(t, "the first one", d, p, one)
	wantRead(t, "the second one", d, q, two)
	if d.Steps() != steps {
		t.Errorf("%d changes behind Reads; want %d", d.Steps(), steps)
	}
}

// P17.5: Open's errors where the sum is right, whoever wrote the bytes, in whatever tier.
func TestReadOfAnyFile(t *testing.T) {
	k := text(key(1))
	for _, tier := range []api.Tier{api.Hot, api.Cold} {
		d, _ := disk.New(400, 400)
		wantOK(t, "Make", d.Make(tier, 4))
		for _, x := range []struct {
			s    string
			want api.Errno
		}{
			{crc.Put(k), api.ErrShort},
			{crc.Put(k + "\x42\x40"), api.ErrForm},
			{crc.Put(k + "\x40\x41x"), api.OK},
			{crc.Put(k + "\x40\x41xy"), api.ErrTail},
			{k + "\x40\x41x\x00\x00\x00\x00", api.ErrSum},
			{crc.Put(k + "\x40\x02\x00\x41" + long(most+1)), api.ErrLong},
		} {
			at, _, _ := d.Size(4)
			wantOK(t, "Add", d.Add(4, x.s))
			p := api.Place{File: 4, At: at, Len: len(x.s)}
			if x.want == api.OK {
				wantRead(t, "a record", d, p, box.Record{Key: key(1), Body: "x"})
			} else {
				wantNoRead(t, "no record", d, p, x.want)
			}
		}
	}
}

// P17.5: a disk that is down, and none.
func TestReadDown(t *testing.T) {
	d, b := begun(t, 9)
	p := wantAdd(t, b, chunk(1, "a"), 0)
	wantOK(t, "Sync", b.Sync())
	d.Arm(0)
	wantRead(t, "the power is still there", d, p, chunk(1, "a"))
	if e := b.Sync(); e != api.ErrDown {
		t.Errorf("Sync = %d", e)
	}
	for _, none := range []*disk.Disk{d, nil} {
		wantNoRead(t, "down", none, p, api.ErrDown)
		wantNoRead(t, "down, no file", none, api.Place{}, api.ErrDown)
		wantNoRead(t, "down, a place below 0", none, api.Place{File: 1, At: -1, Len: -1}, api.ErrDown)
	}
	d.Back()
	wantRead(t, "the power is back", d, p, chunk(1, "a"))
}

// P17.6: of a nil box.
func TestNilBox(t *testing.T) {
	var b *box.Box
	for _, r := range []box.Record{{}, chunk(1, "a"), patch(1, 2, "a"), {Base: key(1)}, chunk(1, long(most+1))} {
		if p, e := b.Add(r); p != (api.Place{}) || e != api.ErrArg {
			t.Errorf("Add(%s) = %v, %d", told(r), p, e)
		}
	}
	if e := b.Sync(); e != api.ErrArg {
		t.Errorf("Sync = %d", e)
	}
	wantBox(t, "nil", b, 0, 0)
}

// added is a record that was added, and where.
type added struct {
	place api.Place
	r     box.Record
}

// run gives a box records, with Syncs in between, up to a loss of power. It answers what was added, and how many of these were made sure.
func run(t *testing.T, d *disk.Disk) (list []added, sure int) {
	t.Helper()
	b, e := box.Begin(d, api.Cold, 5)
	for i, r := range []box.Record{chunk(1, "a"), patch(2, 3, "bc"), {}, chunk(4, long(64)), patch(5, 6, ""), chunk(7, "last")} {
		if e != api.OK {
			break
		}
		var p api.Place
		if p, e = b.Add(r); e == api.OK {
			list = append(list, added{p, r})
		}
		if e == api.OK && i%2 == 1 {
			if e = b.Sync(); e == api.OK {
				sure = len(list)
			}
		}
	}
	if e != api.OK && e != api.ErrDown {
		t.Fatalf("the box answered %d", e)
	}
	return list, sure
}

// P17.7: the power goes at each change, and behind the last one, and any number of bytes is kept: what was made sure is read, and so is what was kept wholly.
func TestPower(t *testing.T) {
	const changes = 1 + 6 + 3
	for n := range changes + 1 {
		for kept := -1; kept < 180; kept++ {
			d, _ := disk.New(9, 99)
			d.Arm(n)
			list, sure := run(t, d)
			if d.Down() != (n < changes) || d.Steps() != n {
				t.Fatalf("behind %d changes: down is %t, Steps are %d", n, d.Down(), d.Steps())
			}
			d.Back(api.Keep{File: 5, Bytes: kept})
			wantKept(t, fmt.Sprintf("behind %d changes, %d bytes kept", n, kept), d, list, sure)
			d.Back()
			wantKept(t, fmt.Sprintf("behind %d changes, %d bytes kept, and a second loss", n, kept), d, list, sure)
		}
	}
}

// wantKept wants Read to tell each record that stands in the file whole, the sure ones among them, and Split these, and perhaps one more.
func wantKept(t *testing.T, name string, d *disk.Disk, list []added, sure int) {
	t.Helper()
	size, _, e := d.Size(5)
	whole := 0
	for i, x := range list {
		if x.place.At+x.place.Len <= size && e == api.OK {
			whole++
			wantRead(t, name, d, x.place, x.r)
		} else if r, e := box.Read(d, x.place); i < sure || r != (box.Record{}) || e != api.ErrArg && e != api.ErrNone {
			t.Fatalf("%s: Read of the record %d = %s, %d", name, i, told(r), e)
		}
	}
	s, _ := d.Read(5, 0, size)
	items, n := box.Split(s)
	if len(items) < whole || len(items) > whole+1 || n > size {
		t.Fatalf("%s: Split = %d records, %d of %d bytes; want %d records or one more", name, len(items), n, size, whole)
	}
	for i := range whole {
		if p := list[i].place; items[i] != (box.Item{At: p.At, Len: p.Len, Record: list[i].r}) {
			t.Fatalf("%s: the record %d of Split = %d, %d, %s", name, i, items[i].At, items[i].Len, told(items[i].Record))
		}
	}
}
