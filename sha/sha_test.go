package sha_test

import (
	"crypto/sha256"
	"encoding/binary"
	"encoding/hex"
	"math"
	"strings"
	"testing"

	"silo/api"
	"silo/sha"
)

// library is the same digest, found another way.
func library(s string) api.Key { return sha256.Sum256([]byte(s)) }

// mixed answers so many bytes that look like no others, the same ones each time.
func mixed(n int) string {
	list := make([]byte, n)
	x := uint32(n)*2654435761 + 1
	for i := range list {
		x = x*1664525 + 1013904223
		list[i] = byte(x >> 24)
	}
	return string(list)
}

// keys answers keys of like and of unlike bytes.
func keys() []api.Key {
	list := []api.Key{{}, {0: 1}, {31: 1}, {0: 0xff}, {31: 0xff}, {15: 0x80}, key(strings.Repeat("\xff", 32))}
	for n := range 40 {
		list = append(list, key(mixed(32 + n)[n:]))
	}
	return list
}

// key answers the key with these 32 bytes.
func key(s string) api.Key { return api.Key([]byte(s)) }

// only answers the key with this byte at this place, and 0 at all others.
func only(at int, b byte) api.Key {
	var k api.Key
	k[at] = b
	return k
}

func wantSum(t *testing.T, call string, got, want api.Key) {
	t.Helper()
	if got != want {
		t.Errorf("%s = %x; want %x", call, got, want)
	}
}

func wantParse(t *testing.T, s string, want api.Key, wantE api.Errno) {
	t.Helper()
	if got, e := sha.Parse(s); got != want || e != wantE {
		t.Errorf("Parse(%q) = %x, %d; want %x, %d", s, got, e, want, wantE)
	}
}

// P3.1, P3.2: what the chapter writes out, and other digests that are known.
func TestExamples(t *testing.T) {
	for s, want := range map[string]string{
		"":    "e3b0c44298fc1c149afbf4c8996fb92427ae41e4649b934ca495991b7852b855",
		"abc": "ba7816bf8f01cfea414140de5dae2223b00361a396177a9cb410ff61f20015ad",
		"abcdbcdecdefdefgefghfghighijhijkijkljklmklmnlmnomnopnopq":                                                         "248d6a61d20638b8e5c026930c3e6039a33ce45964ff2167f6ecedd419db06c1",
		"abcdefghbcdefghicdefghijdefghijkefghijklfghijklmghijklmnhijklmnoijklmnopjklmnopqklmnopqrlmnopqrsmnopqrstnopqrstu": "cf5b16a778af8380036ce59e7b0492370b249b11e8f07a51afac45037afee9d1",
		strings.Repeat("a", 1000000): "cdc76e5c9914fb9281a1c7e284d73e67f1809a48a497200e046d39ccc7112cd0",
	} {
		if got := sha.Hex(sha.Sum(s)); got != want {
			t.Errorf("Hex(Sum of %d bytes) = %s; want %s", len(s), got, want)
		}
	}
	if got := sha.Hex(sha.Sum()); got != "e3b0c44298fc1c149afbf4c8996fb92427ae41e4649b934ca495991b7852b855" {
		t.Errorf("Hex(Sum()) = %s", got)
	}
	k := sha.Sum("abc")
	for _, n := range []int{8, -8} {
		if got := sha.Word(k, n); got != 0xba7816bf {
			t.Errorf("Word(Sum(abc), %d) = %08x", n, got)
		}
	}
}

// P3.1: one part of each length from 0 to 130 bytes: every way to fill the last block.
func TestSumOfEachLength(t *testing.T) {
	for n := range 131 {
		for _, s := range []string{mixed(n), strings.Repeat("\x00", n), strings.Repeat("\xff", n), strings.Repeat("\x80", n)} {
			wantSum(t, "Sum("+hex.EncodeToString([]byte(s))+")", sha.Sum(s), library(s))
		}
	}
	for b := range 256 {
		s := string([]byte{byte(b)})
		wantSum(t, "Sum of one byte "+hex.EncodeToString([]byte(s)), sha.Sum(s), library(s))
	}
}

// P3.1: texts of many blocks, and lengths whose number of bits has two bytes and more.
func TestSumOfManyBlocks(t *testing.T) {
	for _, around := range []int{256, 1024, 4096, 8192, 65536, 2 << 20} {
		for n := around - 9; n <= around+1; n++ {
			s := mixed(n)
			if got, want := sha.Sum(s), library(s); got != want {
				t.Errorf("Sum of %d bytes = %x; want %x", n, got, want)
			}
		}
	}
}

// P3.1: so many bytes that the number of bits needs more than 32 bits.
func TestSumOfHalfAGiga(t *testing.T) {
	t.Parallel()
	const piece, count = 1 << 20, 1 << 9
	s := mixed(piece)
	parts := []string{"ahead"}
	other := sha256.New()
	other.Write([]byte("ahead"))
	for range count {
		parts = append(parts, s)
		other.Write([]byte(s))
	}
	wantSum(t, "Sum of 2^29 + 5 bytes", sha.Sum(parts...), api.Key(other.Sum(nil)))
}

// P3.1: no part, several ones, empty ones.
func TestSumOfParts(t *testing.T) {
	long := mixed(200)
	for _, x := range []struct {
		parts []string
		want  string
	}{
		{nil, ""}, {[]string{}, ""}, {[]string{""}, ""}, {[]string{"", "", ""}, ""},
		{[]string{"", "abc"}, "abc"}, {[]string{"abc", ""}, "abc"}, {[]string{"a", "", "b", "", "", "c"}, "abc"},
		{[]string{"b", "a"}, "ba"}, {[]string{long, long}, long + long}, {[]string{"\x00", "", "\x00"}, "\x00\x00"},
		{[]string{"", long[:64], "", long[64:128], ""}, long[:128]}, {[]string{long[:63], long[63:65], long[65:]}, long},
		{strings.Split(long, ""), long},
	} {
		if got, want := sha.Sum(x.parts...), library(x.want); got != want {
			t.Errorf("Sum(%q) = %x; want %x", x.parts, got, want)
		}
	}
}

// P3.1: a text is one, wherever it is cut.
func TestSumOfTextCutAnywhere(t *testing.T) {
	for _, n := range []int{3, 55, 56, 63, 64, 65, 130} {
		s := mixed(n)
		want := library(s)
		for i := range n + 1 {
			for j := i; j <= n; j++ {
				if got := sha.Sum(s[:i], s[i:j], s[j:]); got != want {
					t.Fatalf("Sum of %d bytes cut at %d and %d = %x; want %x", n, i, j, got, want)
				}
			}
		}
	}
}

// P3.1: what is handed in stays as it is, and one digest leaves nothing for the next.
func TestSumKeepsNothing(t *testing.T) {
	parts := []string{"a", "", "b", "spare"}
	for range 2 {
		wantSum(t, "Sum(a, , b)", sha.Sum(parts[:3]...), library("ab"))
		wantSum(t, "Sum of 100 bytes", sha.Sum(mixed(100)), library(mixed(100)))
	}
	if parts[0] != "a" || parts[1] != "" || parts[2] != "b" || parts[3] != "spare" {
		t.Errorf("the parts became %q", parts)
	}
}

// P3.1
func TestHexThenParse(t *testing.T) {
	for _, k := range keys() {
		text := sha.Hex(k)
		if want := hex.EncodeToString(k[:]); text != want {
			t.Errorf("Hex(%x) = %s", k, text)
		}
		wantParse(t, text, k, api.OK)
	}
	for i := range 32 {
		for b := range 256 {
			k := only(i, byte(b))
			if got, want := sha.Hex(k), hex.EncodeToString(k[:]); got != want {
				t.Errorf("Hex = %s; want %s", got, want)
			}
			wantParse(t, hex.EncodeToString(k[:]), k, api.OK)
		}
	}
}

// P3.1: fewer and more digits than 64, and bytes ahead of, among and behind the digits.
func TestParseOfOtherLengths(t *testing.T) {
	text := strings.Repeat("0123456789abcdef", 5)
	for n := range len(text) + 1 {
		if n != 64 {
			wantParse(t, text[:n], api.Key{}, api.ErrForm)
		}
	}
	wantParse(t, strings.Repeat("ab", 64), api.Key{}, api.ErrForm)
	whole := text[:64]
	for _, s := range []string{" " + whole, whole + "\n", whole + "\x00", "0x" + whole, "0x" + whole[2:], whole[:32] + " " + whole[32:], whole + " ", whole[:63] + "\u00e4"} {
		wantParse(t, s, api.Key{}, api.ErrForm)
	}
}

// P3.1: at each place each byte that is no digit, big letters among them, is refused, and each digit taken.
func TestParseOfEachByte(t *testing.T) {
	text := sha.Hex(library("abc"))
	for i := range 64 {
		for b := range 256 {
			s := text[:i] + string([]byte{byte(b)}) + text[i+1:]
			if strings.IndexByte("0123456789abcdef", byte(b)) < 0 {
				wantParse(t, s, api.Key{}, api.ErrForm)
				continue
			}
			list, err := hex.DecodeString(s)
			if err != nil {
				t.Fatal(err)
			}
			wantParse(t, s, api.Key(list), api.OK)
		}
	}
	wantParse(t, strings.ToUpper(text), api.Key{}, api.ErrForm)
	wantParse(t, strings.Repeat("F", 64), api.Key{}, api.ErrForm)
	wantParse(t, strings.Repeat("\u00e4", 32), api.Key{}, api.ErrForm)
}

// P3.2: keys that are the same, and all others against one another, as texts are.
func TestLess(t *testing.T) {
	for _, a := range keys() {
		if sha.Less(a, a) {
			t.Errorf("Less(%x, itself)", a)
		}
		for _, b := range keys() {
			if got, want := sha.Less(a, b), string(a[:]) < string(b[:]); got != want {
				t.Errorf("Less(%x, %x) = %t", a, b, got)
			}
		}
	}
}

// P3.2: keys that differ in the first, a middle or the last byte, whatever stands behind it.
func TestLessByOneByte(t *testing.T) {
	for _, base := range keys() {
		for i := range 32 {
			small, big := base, base
			for _, x := range [][2]byte{{0, 1}, {0, 0xff}, {0x7f, 0x80}, {1, 0xff}, {0xfe, 0xff}} {
				small[i], big[i] = x[0], x[1]
				for j := i + 1; j < 32; j++ {
					small[j], big[j] = 0xff-base[j], base[j]
				}
				wantLess(t, small, big)
				for j := i + 1; j < 32; j++ {
					small[j], big[j] = 0xff, 0
				}
				wantLess(t, small, big)
			}
		}
	}
}

func wantLess(t *testing.T, small, big api.Key) {
	t.Helper()
	if !sha.Less(small, big) || sha.Less(big, small) {
		t.Errorf("Less(%x, %x) = %t, the other way %t", small, big, sha.Less(small, big), sha.Less(big, small))
	}
}

// P3.2: the words from 0 to 7.
func TestWord(t *testing.T) {
	for n, want := range []uint32{0xba7816bf, 0x8f01cfea, 0x414140de, 0x5dae2223, 0xb00361a3, 0x96177a9c, 0xb410ff61, 0xf20015ad} {
		if got := sha.Word(library("abc"), n); got != want {
			t.Errorf("Word(Sum(abc), %d) = %08x; want %08x", n, got, want)
		}
	}
	for i := range 32 {
		for n := range 8 {
			k := only(i, 0x9c)
			if got, want := sha.Word(k, n), binary.BigEndian.Uint32(k[4*n:]); got != want {
				t.Errorf("Word(%x, %d) = %08x; want %08x", k, n, got, want)
			}
		}
	}
}

// P3.2: numbers below 0, at 8 and above, the least and the greatest one.
func TestWordInACircle(t *testing.T) {
	numbers := []int{math.MinInt, math.MinInt + 1, math.MinInt + 7, math.MinInt + 8, math.MaxInt, math.MaxInt - 1, math.MaxInt - 7, math.MaxInt - 8,
		math.MinInt32, math.MinInt32 - 1, math.MaxInt32, math.MaxInt32 + 1, math.MaxUint32, 1 << 61, 1<<61 + 3, 1 << 62, -1 << 61, -1<<61 - 3, -1 << 62}
	for n := -100; n <= 100; n++ {
		numbers = append(numbers, n)
	}
	for _, k := range keys() {
		for _, n := range numbers {
			left := n % 8
			if left < 0 {
				left += 8
			}
			if got, want := sha.Word(k, n), binary.BigEndian.Uint32(k[4*left:]); got != want {
				t.Errorf("Word(%x, %d) = %08x; want %08x", k, n, got, want)
			}
		}
	}
}
