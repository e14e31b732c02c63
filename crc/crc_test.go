package crc_test

import (
	"hash/crc32"
	"strings"
	"testing"

	"silo/api"
	"silo/crc"
)

var castagnoli = crc32.MakeTable(crc32.Castagnoli)

// library is the same sum, found another way.
func library(s string) uint32 { return crc32.Checksum([]byte(s), castagnoli) }

// high answers a sum's four bytes, the highest first.
func high(sum uint32) string {
	return string([]byte{byte(sum >> 24), byte(sum >> 16), byte(sum >> 8), byte(sum)})
}

// mixed answers so many bytes that look like no others, the same ones each time.
func mixed(n int) string {
	list := make([]byte, n)
	x := uint32(n)*2654435761 + 1
	for i := range list {
		x = x*1664525 + 1013904223
		list[i] = byte(x >> 24)
	}
	return string(list)
}

// texts answers texts of several lengths, of like and of unlike bytes.
func texts() []string {
	list := []string{
		"a", "ab", "123456789", "\u00e4\u20ac", "The quick brown fox jumps over the lazy dog",
		strings.Repeat("\x00", 32), strings.Repeat("\xff", 32), "\x80", "\x01", "\x00\x01", "\x01\x00",
	}
	for n := range 70 {
		list = append(list, mixed(n), strings.Repeat("\x00", n), strings.Repeat("\xff", n))
	}
	return append(list, mixed(255), mixed(256), mixed(257), mixed(4096), mixed(65537))
}

func wantTake(t *testing.T, s, want string, wantE api.Errno) {
	t.Helper()
	if got, e := crc.Take(s); got != want || e != wantE {
		t.Errorf("Take(%x) = %x, %d; want %x, %d", s, got, e, want, wantE)
	}
}

// P2.1: the sums that the chapter writes out, and others that are known.
func TestExamples(t *testing.T) {
	for s, want := range map[string]uint32{
		"": 0, "123456789": 0xe3069283, "a": 0xc1d04330,
		strings.Repeat("\x00", 32): 0x8a9136aa, strings.Repeat("\xff", 32): 0x62a8ab43,
	} {
		if got := crc.Sum(s); got != want {
			t.Errorf("Sum(%x) = %08x; want %08x", s, got, want)
		}
		if got := crc.Put(s); got != s+high(want) {
			t.Errorf("Put(%x) = %x; want its sum %08x behind it", s, got, want)
		}
	}
	if got := crc.Put("123456789"); got != "123456789\xe3\x06\x92\x83" {
		t.Errorf("Put = %x", got)
	}
	wantTake(t, "123456789\xe3\x06\x92\x83", "123456789", api.OK)
	wantTake(t, "\x00\x00\x00", "", api.ErrShort)
	wantTake(t, "\x00\x00\x00\x00", "", api.OK)
	wantTake(t, "\x00\x00\x00\x01", "", api.ErrSum)
}

// P2.1: one part.
func TestSum(t *testing.T) {
	for b := range 256 {
		s := string([]byte{byte(b)})
		if got, want := crc.Sum(s), library(s); got != want {
			t.Errorf("Sum(%x) = %08x; want %08x", s, got, want)
		}
	}
	for _, s := range texts() {
		if got, want := crc.Sum(s), library(s); got != want {
			t.Errorf("Sum of %d bytes = %08x; want %08x", len(s), got, want)
		}
	}
}

// P2.1: no part, several ones, empty ones.
func TestSumOfParts(t *testing.T) {
	s := mixed(23)
	for _, x := range []struct {
		parts []string
		want  string
	}{
		{nil, ""}, {[]string{}, ""}, {[]string{""}, ""}, {[]string{"", "", ""}, ""},
		{[]string{"", s}, s}, {[]string{s, ""}, s}, {[]string{"12", "", "3456789"}, "123456789"},
		{[]string{"b", "a"}, "ba"}, {[]string{s, s}, s + s}, {[]string{"", "\x00", "", "\x00", ""}, "\x00\x00"},
		{strings.Split(s, ""), s},
	} {
		if got, want := crc.Sum(x.parts...), library(x.want); got != want {
			t.Errorf("Sum(%q) = %08x; want %08x", x.parts, got, want)
		}
	}
	for i := range len(s) + 1 {
		for j := i; j <= len(s); j++ {
			if got, want := crc.Sum(s[:i], s[i:j], s[j:]), library(s); got != want {
				t.Errorf("Sum of parts ended at %d and %d = %08x; want %08x", i, j, got, want)
			}
		}
	}
}

// P2.1: what is handed in stays as it is, and one sum leaves nothing for the next.
func TestSumKeepsNothing(t *testing.T) {
	parts := []string{"a", "", "b", "spare"}
	for range 2 {
		if got, want := crc.Sum(parts[:3]...), library("ab"); got != want {
			t.Errorf("Sum = %08x; want %08x", got, want)
		}
	}
	if parts[0] != "a" || parts[1] != "" || parts[2] != "b" || parts[3] != "spare" {
		t.Errorf("the parts became %q", parts)
	}
}

// P2.1, P2.2
func TestPutThenTake(t *testing.T) {
	for _, s := range texts() {
		put := crc.Put(s)
		if want := s + high(library(s)); put != want {
			t.Errorf("Put of %d bytes = %x; want %x", len(s), put, want)
		}
		wantTake(t, put, s, api.OK)
		twice := crc.Put(put)
		wantTake(t, twice, put, api.OK)
	}
}

// P2.1: fewer bytes than a sum has, whatever they are.
func TestTakeTooShort(t *testing.T) {
	for n := range 4 {
		wantTake(t, mixed(n), "", api.ErrShort)
		wantTake(t, strings.Repeat("\x00", n), "", api.ErrShort)
		wantTake(t, crc.Put("")[:n], "", api.ErrShort)
	}
}

// P2.1: bytes whose last four aren't the sum of those ahead.
func TestTakeWrongSum(t *testing.T) {
	for _, s := range []string{"a", "123456789", mixed(4), mixed(64), mixed(300)} {
		sum := library(s)
		put := s + high(sum)
		for _, wrong := range []string{
			s + high(^sum), s + high(sum+1), s + high(0), s,
			s + string([]byte{byte(sum), byte(sum >> 8), byte(sum >> 16), byte(sum >> 24)}),
			high(sum) + s, put + "\x00", put + put, put[1:], put[:len(put)-1], "\x00" + put,
			s + high(crc32.ChecksumIEEE([]byte(s))), s + high(library(put)),
		} {
			want := api.ErrSum
			if len(wrong) < 4 {
				want = api.ErrShort
			}
			wantTake(t, wrong, "", want)
		}
	}
}

// P2.1: of four bytes only the sum of nothing is one.
func TestTakeFourBytes(t *testing.T) {
	for i := range 4 {
		for b := 1; b < 256; b++ {
			list := make([]byte, 4)
			list[i] = byte(b)
			wantTake(t, string(list), "", api.ErrSum)
		}
	}
	wantTake(t, "\xff\xff\xff\xff", "", api.ErrSum)
}

// P2.2: what Take takes is a Put: whatever two neighbours of its bytes become, no other text is taken.
func TestTakeTakesPuts(t *testing.T) {
	for _, s := range []string{"", "a", "xyz", mixed(9)} {
		put := crc.Put(s)
		for i := range len(put) - 1 {
			for x := range 1 << 16 {
				changed := put[:i] + string([]byte{byte(x >> 8), byte(x)}) + put[i+2:]
				got, e := crc.Take(changed)
				if e == api.OK && crc.Put(got) != changed {
					t.Fatalf("Take took %x, which isn't the Put of %x", changed, got)
				}
				if (e == api.OK) != (changed == put) {
					t.Fatalf("Take(%x) = %d", changed, e)
				}
			}
		}
	}
}

// turned answers the bytes with those bits turned that the mask has, from that bit on: the lowest bit of each byte comes first, as the sum has it.
func turned(s string, from int, mask uint32) string {
	list := []byte(s)
	for bit := range 32 {
		if mask>>bit&1 == 1 {
			at := from + bit
			list[at/8] ^= 1 << (at % 8)
		}
	}
	return string(list)
}

// masks answers which of up to so many bits in a row are turned, the first and the last of them among these.
func masks(bits int) []uint32 {
	row := uint32(1)<<bits - 1
	ends := uint32(1) | 1<<(bits-1)
	var list []uint32
	if bits <= 8 {
		for mask := uint32(1); mask <= row; mask++ {
			if mask&ends == ends {
				list = append(list, mask)
			}
		}
		return list
	}
	x := uint32(bits)
	for range 12 {
		x = x*1664525 + 1013904223
		list = append(list, (x>>3^x<<13)&row|ends)
	}
	return append(list, ends, row, 0x55555555&row|ends, 0x82f63b78&row|ends)
}

// P2.3: wherever 1 to 32 bits in a row are looked at, within the text or within its sum, and some are turned.
func TestTakeRefusesTurnedBits(t *testing.T) {
	for _, s := range []string{"", "a", "ab", "123456789", strings.Repeat("\x00", 12), strings.Repeat("\xff", 7), mixed(40)} {
		put := crc.Put(s)
		refuse := func(begin, end int) {
			for bits := 1; bits <= 32 && bits <= end-begin; bits++ {
				for _, mask := range masks(bits) {
					for from := begin; from+bits <= end; from++ {
						if got, e := crc.Take(turned(put, from, mask)); e != api.ErrSum || got != "" {
							t.Fatalf("Take(Put(%x), bits %x turned from %d on) = %x, %d", s, mask, from, got, e)
						}
					}
				}
			}
		}
		refuse(0, 8*len(s))
		refuse(8*len(s), 8*len(put))
	}
}
