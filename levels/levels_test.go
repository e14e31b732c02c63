package levels_test

import (
	"fmt"
	"math"
	"slices"
	"strconv"
	"strings"
	"testing"

	"silo/api"
	"silo/levels"
)

// Tables are told as a text: of each one its file, a point, its level, a colon, its least key, a dash, its greatest key; blanks between. Files are told with blanks between. A plan: In, an arrow, Out, Low, a dash, High, and "bottom" where it is; no plan: "none".

// tables answers the tables of a text.
func tables(s string) []api.Table {
	var list []api.Table
	for _, f := range strings.Fields(s) {
		numbers, keys, _ := strings.Cut(f, ":")
		file, level, _ := strings.Cut(numbers, ".")
		low, high, _ := strings.Cut(keys, "-")
		list = append(list, api.Table{File: number(file), Level: number(level), Count: 1, Low: low, High: high})
	}
	return list
}

func number(s string) int {
	n, err := strconv.Atoi(s)
	if err != nil {
		panic(err)
	}
	return n
}

// files tells files as a text.
func files(list []int) string { return strings.Trim(fmt.Sprint(list), "[]") }

// plan tells what a Pick answered as a text.
func plan(p levels.Plan, ok bool) string {
	if !ok {
		if len(p.In) == 0 && p.Out == 0 && p.Low == "" && p.High == "" && !p.Bottom {
			return "none"
		}
		return fmt.Sprintf("none, but %+v", p)
	}
	s := fmt.Sprintf("%s > %d %s-%s", files(p.In), p.Out, p.Low, p.High)
	if p.Bottom {
		s += " bottom"
	}
	return s
}

func wantOver(t *testing.T, list []api.Table, level int, low, high, want string) {
	t.Helper()
	if got := files(levels.Over(list, level, low, high)); got != want {
		t.Errorf("Over(%s, %d, %q, %q) = %s; want %s", told(list), level, low, high, got, want)
	}
}

func wantFind(t *testing.T, list []api.Table, key, want string) {
	t.Helper()
	if got := files(levels.Find(list, key)); got != want {
		t.Errorf("Find(%s, %q) = %s; want %s", told(list), key, got, want)
	}
}

func wantPick(t *testing.T, list []api.Table, fan int, want string) {
	t.Helper()
	if got := plan(levels.Pick(list, fan)); got != want {
		t.Errorf("Pick(%s, %d) = %s; want %s", told(list), fan, got, want)
	}
}

// told tells tables as a text, of many ones how many there are.
func told(list []api.Table) string {
	if len(list) > 40 {
		return fmt.Sprint(len(list), " tables")
	}
	var s []string
	for _, x := range list {
		s = append(s, fmt.Sprintf("%d.%d:%s-%s", x.File, x.Level, x.Low, x.High))
	}
	return strings.Join(s, " ")
}

// row answers so many tables of a level, that have keys of their own, which rise; their files rise from the first one on.
func row(level, count, first int) []api.Table {
	var list []api.Table
	for i := range count {
		list = append(list, api.Table{File: first + i, Level: level, Count: 1, Low: fmt.Sprintf("%06da", i), High: fmt.Sprintf("%06db", i)})
	}
	return list
}

// power answers fan multiplied with itself.
func power(fan, times int) int {
	if times == 0 {
		return 1
	}
	return fan * power(fan, times-1)
}

// The chapter's example.
func TestExample(t *testing.T) {
	list := tables("4.0:b-c 3.0:a-b 2.1:c-d 1.1:e-f")
	wantPick(t, list, 2, "4 3 2 > 1 a-d bottom")
	wantPick(t, list, 3, "none")
	wantOver(t, list, 0, "a", "b", "4 3")
	wantOver(t, list, 1, "d", "e", "2 1")
	wantFind(t, list, "c", "4 2")
}

// P14.1: of no tables.
func TestOverAndFindOfNone(t *testing.T) {
	for _, list := range [][]api.Table{nil, {}, make([]api.Table, 0, 9)} {
		for level := -1; level <= api.MaxLevels; level++ {
			wantOver(t, list, level, "", "", "")
			wantOver(t, list, level, "", "~", "")
			wantOver(t, list, level, "b", "a", "")
		}
		wantFind(t, list, "", "")
		wantFind(t, list, "a", "")
	}
}

// P14.1: Over tells the tables of the level that is asked for, and of no other.
func TestOverOfLevels(t *testing.T) {
	list := tables("9.0:a-c 8.0:b-d 1.1:a-b 7.1:c-d 2.2:a-d 6.3:b-b 5.3:c-c 4.4:a-c 3.5:a-d")
	for level, want := range []string{"9 8", "1 7", "2", "6 5", "4", "3", "", ""} {
		wantOver(t, list, level, "a", "d", want)
	}
	for level, want := range []string{"9 8", "1", "2", "6", "4", "3", ""} {
		wantOver(t, list, level, "b", "b", want)
	}
	for _, level := range []int{-1, -2, math.MinInt, math.MaxInt, 256, 1 << 32} {
		wantOver(t, list, level, "a", "d", "")
	}
}

// P14.1: ranges that meet a table at one end, lie within it, lie around it, lie apart; those whose low is above their high have no keys, wherever they lie.
func TestOverAtEnds(t *testing.T) {
	for _, level := range []int{0, 1, 4, 5} {
		list := []api.Table{{File: 7, Level: level, Low: "c", High: "f"}}
		for _, keys := range []string{"a-c", "a-d", "c-c", "c-d", "c-f", "d-d", "d-e", "e-f", "f-f", "f-h", "e-h", "b-g", "c-g", "b-f", "-z"} {
			low, high, _ := strings.Cut(keys, "-")
			wantOver(t, list, level, low, high, "7")
		}
		for _, keys := range []string{"a-b", "b-b", "g-g", "g-h", "-", "-b", "a-bz", "fa-z"} {
			low, high, _ := strings.Cut(keys, "-")
			wantOver(t, list, level, low, high, "")
		}
		for _, keys := range []string{"e-d", "f-c", "f-e", "d-c", "g-b", "g-f", "c-b", "z-", "h-g", "b-a", "g-d", "d-b"} {
			low, high, _ := strings.Cut(keys, "-")
			wantOver(t, list, level, low, high, "")
		}
	}
}

// P14.1: a range that lies between tables, and one that reaches from one to another.
func TestOverOfSeveral(t *testing.T) {
	list := tables("5.2:b-c 3.2:e-e 8.2:g-k 1.2:m-n")
	wantOver(t, list, 2, "d", "d", "")
	wantOver(t, list, 2, "ca", "dz", "")
	wantOver(t, list, 2, "c", "e", "5 3")
	wantOver(t, list, 2, "ca", "e", "3")
	wantOver(t, list, 2, "c", "dz", "5")
	wantOver(t, list, 2, "d", "l", "3 8")
	wantOver(t, list, 2, "h", "i", "8")
	wantOver(t, list, 2, "h", "m", "8 1")
	wantOver(t, list, 2, "a", "z", "5 3 8 1")
	wantOver(t, list, 2, "n", "b", "")
}

// P14.1, P14.2: keys are held against each other byte by byte, as Go compares strings.
func TestKeysAreBytes(t *testing.T) {
	list := []api.Table{{File: 3, Level: 1, Low: "", High: ""}, {File: 2, Level: 1, Low: "\x00", High: "a"}, {File: 5, Level: 1, Low: "a\x00", High: "\x7f"}, {File: 1, Level: 1, Low: "\x80", High: "\xff\xff"}}
	wantFind(t, list, "", "3")
	wantFind(t, list, "\x00", "2")
	wantFind(t, list, "\x00\x00", "2")
	wantFind(t, list, "B", "2")
	wantFind(t, list, "a", "2")
	wantFind(t, list, "a\x00", "5")
	wantFind(t, list, "aa", "5")
	wantFind(t, list, "\x7f", "5")
	wantFind(t, list, "\x7f\x00", "")
	wantFind(t, list, "\x80", "1")
	wantFind(t, list, "é", "1")
	wantFind(t, list, "\xff\xff", "1")
	wantFind(t, list, "\xff\xff\x00", "")
	wantOver(t, list, 1, "", "\x00", "3 2")
	wantOver(t, list, 1, "a", "a\x00", "2 5")
	wantOver(t, list, 1, "\x7f\x00", "\x7f\xff", "")
	wantOver(t, list, 1, "\x7f", "\x80", "5 1")
	both := []api.Table{{File: 9, Low: "é", High: "\xff"}, {File: 8, Low: "Z", High: "z"}, {File: 7, Level: 1, Low: "{", High: "\x7f\x7f"}, {File: 6, Level: 1, Low: "\x00", High: "Y\xff"}}
	wantPick(t, both, 2, "9 8 7 > 1 Z-\xff bottom")
}

// P14.1: the files come in the order in which their tables stand, whatever it is.
func TestOrderOfOverAndFind(t *testing.T) {
	list := tables("1.0:a-c 4.1:a-b 9.0:b-d 7.2:a-z 4.0:c-c 3.1:c-d 6.0:a-z 4.0:a-b")
	wantOver(t, list, 0, "c", "c", "1 9 4 6")
	wantOver(t, list, 0, "a", "d", "1 9 4 6 4")
	wantOver(t, list, 1, "a", "d", "4 3")
	wantFind(t, list, "b", "1 4 9 7 6 4")
	wantFind(t, list, "c", "1 9 7 4 3 6")
	slices.Reverse(list)
	wantOver(t, list, 0, "c", "c", "6 4 9 1")
	wantOver(t, list, 1, "a", "d", "3 4")
	wantFind(t, list, "b", "4 6 7 9 4 1")
}

// P14.1: a key that no table may have, one that tables of several levels may have, the least and the greatest key of each.
func TestFind(t *testing.T) {
	list := tables("9.0:c-f 8.0:b-d 5.1:b-c 7.1:e-g 2.2:d-h 6.3:k-m 4.4:a-c 3.5:c-n")
	for key, want := range map[string]string{
		"": "", "A": "", "o": "", "na": "", "~": "",
		"a": "4", "b": "8 5 4", "c": "9 8 5 4 3", "ca": "9 8 3", "d": "9 8 2 3", "da": "9 2 3", "e": "9 7 2 3", "f": "9 7 2 3",
		"g": "7 2 3", "ga": "2 3", "h": "2 3", "ha": "3", "k": "6 3", "l": "6 3", "m": "6 3", "ma": "3", "n": "3",
	} {
		wantFind(t, list, key, want)
	}
	gap := tables("2.1:b-c 1.1:e-f")
	for key, want := range map[string]string{"a": "", "b": "2", "c": "2", "ca": "", "d": "", "dz": "", "e": "1", "f": "1", "fa": ""} {
		wantFind(t, gap, key, want)
	}
}

// P14.2: fans that may not be, where each level has more tables than any fan lets it have.
func TestPickOfOtherFans(t *testing.T) {
	var list []api.Table
	for level := range api.MaxLevels {
		list = append(list, row(level, 70000, 1+level*70000)...)
	}
	for _, fan := range []int{1, 0, -1, -2, -16, 17, 18, 32, 256, 1<<32 + 2, math.MinInt, math.MaxInt} {
		wantPick(t, list, fan, "none")
		wantPick(t, nil, fan, "none")
	}
	for fan := 2; fan <= 16; fan++ {
		if p, ok := levels.Pick(list, fan); !ok || len(p.In) != 140000 || p.Out != 1 {
			t.Errorf("Pick of a fan of %d: %d tables to level %d, %t", fan, len(p.In), p.Out, ok)
		}
	}
}

// P14.2: of no tables, and of few ones, nothing is to be merged.
func TestPickOfFew(t *testing.T) {
	for fan := 2; fan <= 16; fan++ {
		wantPick(t, nil, fan, "none")
		wantPick(t, []api.Table{}, fan, "none")
		for level := range api.MaxLevels {
			wantPick(t, row(level, 1, 1), fan, "none")
		}
		wantPick(t, tables("6.0:a-c 5.1:a-c 4.2:a-c 3.3:a-c 2.4:a-c 1.5:a-c"), fan, "none")
	}
}

// P14.2: level 0 with one table fewer than fan, with fan, with more: all of them leave.
func TestPickOfLevel0(t *testing.T) {
	for fan := 2; fan <= 16; fan++ {
		for _, more := range []int{-1, 0, 1, 2, fan, 50} {
			list := row(0, fan+more, 1)
			slices.Reverse(list)
			want := "none"
			if more >= 0 {
				want = fmt.Sprintf("%s > 1 000000a-%06db bottom", files(fallingFrom(fan+more)), fan+more-1)
			}
			wantPick(t, list, fan, want)
		}
	}
}

// fallingFrom answers the numbers from high down to 1.
func fallingFrom(high int) []int {
	var list []int
	for n := high; n > 0; n-- {
		list = append(list, n)
	}
	return list
}

// P14.2: levels from 1 to 4 with as many tables as they may have, and with one more: the one with the least file leaves, be it the first one, the last one, or another.
func TestPickOfDeeperLevels(t *testing.T) {
	for fan := 2; fan <= 16; fan++ {
		for level := 1; level <= 4; level++ {
			most := power(fan, level)
			list := row(level, most+1, 2)
			wantPick(t, list[:most], fan, "none")
			wantPick(t, list[1:], fan, "none")
			for _, at := range []int{0, 1, most / 2, most - 1, most} {
				list[at].File = 1
				wantPick(t, list, fan, fmt.Sprintf("1 > %d %06da-%06db bottom", level+1, at, at))
				list[at].File = 2 + at
			}
		}
	}
}

// P14.2: level 5 keeps all of its tables, however many there are; what stands in no level at all isn't merged.
func TestPickOfTheDeepestLevel(t *testing.T) {
	for _, fan := range []int{2, 3, 16} {
		for _, count := range []int{1, 2, 3, 33, 1000, 65537, 70000} {
			for _, level := range []int{5, 6, 7, -1, math.MinInt, math.MaxInt} {
				wantPick(t, row(level, count, 1), fan, "none")
			}
		}
	}
}

// P14.2: level 0 with one table fewer than fan doesn't leave where another level has too many, nor is it in the plan.
func TestPickBehindLevel0(t *testing.T) {
	list := tables("9.0:a-z 3.1:a-b 2.1:c-d 4.1:e-f")
	wantPick(t, list, 2, "2 > 2 c-d bottom")
	wantPick(t, append(tables("8.0:a-z"), list...), 3, "none")
	wantPick(t, append(tables("8.0:a-z"), list...), 2, "8 9 3 2 4 > 1 a-z bottom")
}

// P14.2: two levels, each with too many: the lesser one is merged, in whatever order they stand.
func TestPickOfTwoLevels(t *testing.T) {
	for lesser := range 4 {
		for greater := lesser + 1; greater <= 4; greater++ {
			one := row(lesser, power(2, lesser)+1, 1000)
			two := row(greater, power(2, greater)+1, 1)
			for i := range two {
				// Apart from all keys of the lesser level.
				two[i].Low, two[i].High = "x"+two[i].Low, "x"+two[i].High
			}
			want := fmt.Sprintf("1000 > %d 000000a-000000b bottom", lesser+1)
			if lesser == 0 {
				want = "1000 1001 > 1 000000a-000001b bottom"
			}
			wantPick(t, slices.Concat(one, two), 2, want)
			wantPick(t, slices.Concat(two, one), 2, want)
			wantPick(t, two, 2, fmt.Sprintf("1 > %d x000000a-x000000b bottom", greater+1))
		}
	}
}

// P14.2: each level may have fan times as many as the one ahead, not fewer and not more.
func TestPickOfFullLevels(t *testing.T) {
	full := row(0, 2, 1000)
	for level := 1; level <= 4; level++ {
		full = append(full, row(level, power(3, level), 1000*(level+1))...)
	}
	wantPick(t, full, 3, "none")
	if p, ok := levels.Pick(full, 2); !ok || p.Out != 1 {
		t.Errorf("a fan of 2: %v", plan(p, ok))
	}
	for level := range api.MaxLevels {
		more := append(slices.Clone(full), api.Table{File: 1, Level: level, Low: "x", High: "y"})
		p, ok := levels.Pick(more, 3)
		switch {
		case level == 5 && ok:
			t.Errorf("one table of level 5 more: %s", plan(p, ok))
		case level == 0 && (!ok || p.Out != 1 || len(p.In) < 3 || files(p.In[:3]) != "1000 1001 1"):
			t.Errorf("one table of level 0 more: %s", plan(p, ok))
		case level > 0 && level < 5 && plan(p, ok) != fmt.Sprintf("1 > %d x-y bottom", level+1):
			t.Errorf("one table of level %d more: %s", level, plan(p, ok))
		}
	}
}

// P14.2: of files that are one, and of numbers that no file has, the first one of the least ones leaves.
func TestPickOfTheLeastFile(t *testing.T) {
	wantPick(t, tables("5.1:a-b 2.1:c-d 2.1:e-f 3.1:g-h"), 2, "2 > 2 c-d bottom")
	wantPick(t, tables("5.1:a-b 3.1:g-h 2.1:e-f 2.1:c-d"), 2, "2 > 2 e-f bottom")
	wantPick(t, tables("4.1:a-b 4.1:c-d 4.1:e-f"), 2, "4 > 2 a-b bottom")
	wantPick(t, tables("5.1:a-b 0.1:c-d -7.1:e-f 3.1:g-h"), 2, "-7 > 2 e-f bottom")
	// A lesser file of another level plays no part.
	wantPick(t, tables("1.0:a-b 9.1:a-b 7.1:c-d 8.1:e-f 2.2:x-y 3.5:c-c"), 2, "7 > 2 c-d")
}

// P14.2: what level Out brings along: tables that lie beside, within, around and apart from what leaves, as they stand.
func TestWhatIsBroughtAlong(t *testing.T) {
	out := " 20.1:a-b 29.1:c-e 21.1:f-f 28.1:g-k 22.1:l-m 27.1:n-p"
	for keys, want := range map[string]string{
		"h-i": "9 8 28 > 1 g-k bottom",
		"g-k": "9 8 28 > 1 g-k bottom",
		"k-k": "9 8 28 > 1 g-k bottom",
		"f-g": "9 8 21 28 > 1 f-k bottom",
		"e-l": "9 8 29 21 28 22 > 1 c-m bottom",
		"d-f": "9 8 29 21 > 1 c-f bottom",
		"0-a": "9 8 20 > 1 0-b bottom",
		"p-q": "9 8 27 > 1 n-q bottom",
		"0-z": "9 8 20 29 21 28 22 27 > 1 0-z bottom",
		"q-r": "9 8 > 1 q-r bottom",
		"0-1": "9 8 > 1 0-1 bottom",
		// Between two tables.
		"ea-ez": "9 8 > 1 ea-ez bottom",
	} {
		wantPick(t, tables("9.0:"+keys+" 8.0:"+keys+out), 2, want)
	}
}

// P14.2: from the least Low to the greatest High of all that leaves, also where it has keys of neither table; and no further, whatever is brought along.
func TestWhatLiesBetween(t *testing.T) {
	wantPick(t, tables("9.0:k-l 8.0:b-c 7.1:a-a 3.1:e-f 5.1:m-m"), 2, "9 8 3 > 1 b-l bottom")
	wantPick(t, tables("9.0:b-c 8.0:k-l 7.1:a-a 3.1:e-f 5.1:m-m"), 2, "9 8 3 > 1 b-l bottom")
	wantPick(t, tables("9.0:c-d 8.0:b-l 7.0:e-f 6.1:a-b"), 3, "9 8 7 6 > 1 a-l bottom")
	// The table 5 reaches as far as the table 4 begins: only in a list that is no state's.
	wantPick(t, tables("9.0:b-c 8.0:b-c 5.1:c-e 4.1:e-f"), 2, "9 8 5 > 1 b-e bottom")
}

// P14.2: tables of other levels than Out aren't brought along.
func TestWhatStays(t *testing.T) {
	wantPick(t, tables("9.0:b-c 3.1:a-b 4.1:c-d 5.1:e-f 2.2:e-f 1.3:a-z 6.4:a-z 7.5:a-z"), 2, "3 > 2 a-b")
	wantPick(t, tables("9.0:b-c 5.0:d-d 2.2:a-f 1.3:a-f 6.4:a-f 7.5:a-f"), 2, "9 5 > 1 b-d")
	wantPick(t, tables("3.2:a-b 4.2:c-d 5.2:e-f 6.2:g-h 7.2:i-j 12.3:b-c 11.3:d-d 2.1:a-b"), 2, "3 12 > 3 a-c bottom")
}

// P14.2: the files of In stand as their tables do, those that leave ahead of those of level Out.
func TestOrderOfIn(t *testing.T) {
	wantPick(t, tables("1.1:a-b 2.0:a-b 8.1:c-d 9.0:c-d 5.1:e-f 4.0:e-f"), 2, "2 9 4 1 8 5 > 1 a-f bottom")
	wantPick(t, tables("1.1:e-f 9.0:e-f 8.1:a-b 2.0:a-b 5.1:c-d 4.0:c-d"), 2, "9 2 4 1 8 5 > 1 a-f bottom")
	wantPick(t, tables("30.4:e-f 8.3:a-g 40.4:c-d 20.4:g-h 9.3:x-y 7.3:z-z"), 2, "none")
	nine := append(tables("30.4:e-f 10.3:a-g 40.4:c-d 20.4:g-h"), row(3, 8, 11)...)
	wantPick(t, nine, 2, "10 30 40 20 > 4 a-h bottom")
}

// P14.2: Low and High are those of all tables of In: they may come from what leaves, or from level Out, each by itself.
func TestLowAndHigh(t *testing.T) {
	wantPick(t, tables("9.0:c-m 8.0:d-n"), 2, "9 8 > 1 c-n bottom")
	wantPick(t, tables("9.0:d-n 8.0:c-m"), 2, "9 8 > 1 c-n bottom")
	wantPick(t, tables("9.0:d-m 8.0:c-n"), 2, "9 8 > 1 c-n bottom")
	wantPick(t, tables("9.0:d-m 8.0:e-f 1.1:a-d"), 2, "9 8 1 > 1 a-m bottom")
	wantPick(t, tables("9.0:d-m 8.0:e-f 1.1:m-p"), 2, "9 8 1 > 1 d-p bottom")
	wantPick(t, tables("9.0:d-m 8.0:e-f 1.1:a-d 2.1:m-p"), 2, "9 8 1 2 > 1 a-p bottom")
	wantPick(t, tables("9.0:d-m 8.0:e-f 1.1:a-p"), 2, "9 8 1 > 1 a-p bottom")
	wantPick(t, tables("9.0:d-m 8.0:e-f 1.1:f-g"), 2, "9 8 1 > 1 d-m bottom")
}

// P14.2: Bottom, where a table of a deeper level than Out lies apart, beside, within and around.
func TestBottom(t *testing.T) {
	for level := 2; level <= 5; level++ {
		for keys, bottom := range map[string]bool{"a-b": true, "a-cz": true, "ja-k": true, "k-z": true, "a-d": false, "d-d": false, "e-f": false, "a-z": false, "d-j": false, "j-j": false, "j-z": false, "i-z": false} {
			want := "9 8 > 1 d-j"
			if bottom {
				want += " bottom"
			}
			list := tables(fmt.Sprintf("9.0:d-e 8.0:i-j 1.%d:%s", level, keys))
			wantPick(t, list, 2, want)
			slices.Reverse(list)
			wantPick(t, list, 2, strings.Replace(want, "9 8", "8 9", 1))
		}
	}
	wantPick(t, tables("9.0:d-e 8.0:i-j 1.2:a-b 2.3:k-l 3.4:ja-jz 4.5:0-c"), 2, "9 8 > 1 d-j bottom")
	wantPick(t, tables("9.0:d-e 8.0:i-j 1.2:a-b 2.3:k-l 3.4:ja-jz 4.5:0-d"), 2, "9 8 > 1 d-j")
	// Between the keys of what leaves.
	wantPick(t, tables("9.0:d-e 8.0:i-j 1.4:f-g"), 2, "9 8 > 1 d-j")
}

// P14.2: Bottom is false also by what the tables of level Out bring along alone, below and above.
func TestBottomByWhatIsBroughtAlong(t *testing.T) {
	for level := 2; level <= 5; level++ {
		for deep, bottom := range map[string]bool{"a-b": false, "a-a": false, "0-1": true, "c-ca": false, "g-ga": false, "l-m": false, "m-z": false, "ma-z": true, "0-9": true} {
			want := "9 8 7 6 > 1 a-m"
			if bottom {
				want += " bottom"
			}
			wantPick(t, tables(fmt.Sprintf("9.0:d-e 8.0:d-f 7.1:a-d 6.1:f-m 5.%d:%s", level, deep)), 2, want)
		}
	}
}

// P14.2: tables of levels up to Out don't make Bottom false: neither those ahead of the level that is merged, nor those beside what leaves it.
func TestBottomAsideFromOthers(t *testing.T) {
	one := "19.0:a-z 18.1:a-z 17.1:z-zz "
	two := "1.2:e-g 2.2:a-b 3.2:c-d 4.2:h-i 5.2:j-k "
	wantPick(t, tables(one+two+"6.3:f-l 7.3:m-n"), 2, "1 6 > 3 e-l bottom")
	wantPick(t, tables(one+two+"6.3:f-l 7.3:m-n 8.4:m-n 9.5:a-d"), 2, "1 6 > 3 e-l bottom")
	wantPick(t, tables(one+two+"6.3:f-l 7.3:m-n 8.4:k-n 9.5:a-d"), 2, "1 6 > 3 e-l")
	wantPick(t, tables(one+two+"6.3:f-l 7.3:m-n 8.4:m-n 9.5:a-e"), 2, "1 6 > 3 e-l")
}

// P14.2: from level 4 to level 5, which is always the bottom.
func TestBottomOfTheDeepestLevel(t *testing.T) {
	list := append(row(4, 17, 100), tables("50.5:0-1 51.5:2-3 1.4:3-4 52.5:4-6 53.5:7-8 60.3:0-9")...)
	wantPick(t, list, 2, "1 51 52 > 5 2-6 bottom")
}

// P14.1, P14.2: the tables that are handed in stay as they are, spare room included.
func TestTablesStay(t *testing.T) {
	for _, s := range []string{"", "4.0:b-c 3.0:a-b 2.1:c-d 1.1:e-f 9.3:d-e", "9.1:a-b 3.1:c-d 2.1:e-f 5.2:d-e 4.3:a-z", "2.0:x-y 3.2:b-a 1.0:a-b 7.-1:a-z 8.6:a-z"} {
		room := append(tables(s), tables("71.0:a-z 72.1:a-z 73.2:a-z 74.3:a-z")...)
		kept := slices.Clone(room)
		list := room[:len(room)-4]
		for range 2 {
			for fan := 1; fan <= 17; fan++ {
				levels.Pick(list, fan)
			}
			for level := range api.MaxLevels {
				levels.Over(list, level, "a", "z")
			}
			levels.Find(list, "b")
			if !slices.Equal(room, kept) {
				t.Fatalf("%s: the tables became %s", told(kept), told(room))
			}
		}
	}
}

// P14.1, P14.2: answers are new: what is written into one of them, spare room included, isn't seen in another.
func TestAnswersAreNew(t *testing.T) {
	list := tables("4.0:b-c 3.0:a-b 2.1:c-d 1.1:e-f 9.3:d-e")
	spoil := func(answer []int) {
		for i := range answer[:cap(answer)] {
			answer[:cap(answer)][i] = -1
		}
	}
	first, _ := levels.Pick(list, 2)
	one, two := levels.Over(list, 0, "b", "b"), levels.Find(list, "c")
	again, _ := levels.Pick(list, 2)
	for range 2 {
		spoil(first.In)
		spoil(one)
		spoil(two)
		if files(again.In) != "4 3 2" {
			t.Errorf("an answer shares its files: %v", again.In)
		}
		wantPick(t, list, 2, "4 3 2 > 1 a-d")
		wantOver(t, list, 0, "b", "b", "4 3")
		wantFind(t, list, "c", "4 2")
	}
}

// P14.1, P14.2: what is asked hangs on the tables alone: not on how many entries they have, nor on what was asked ahead.
func TestCountsPlayNoPart(t *testing.T) {
	list := tables("4.0:b-c 3.0:a-b 2.1:c-d 1.1:e-f 9.3:d-e")
	for _, count := range []int{0, 1, -1, 4096, math.MaxInt, math.MinInt} {
		for i := range list {
			list[i].Count = count
		}
		wantPick(t, list, 2, "4 3 2 > 1 a-d")
		wantPick(t, list, 3, "none")
		wantOver(t, list, 1, "d", "e", "2 1")
		wantFind(t, list, "c", "4 2")
	}
}
