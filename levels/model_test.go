package levels_test

import (
	"fmt"
	"math/rand/v2"
	"slices"
	"testing"

	"silo/api"
	"silo/levels"
	"silo/manifest"
)

// The other working-out. It asks of single keys whether a table may have them: where a table may have a key of a range, it may have the least key of the one or of the other.

// has tells whether a table may have a key.
func has(x api.Table, key string) bool { return !(key < x.Low) && !(x.High < key) }

// hasOf tells whether a table may have a key from low to high.
func hasOf(x api.Table, low, high string) bool {
	for _, key := range []string{low, x.Low} {
		if has(x, key) && !(key < low) && !(high < key) {
			return true
		}
	}
	return false
}

// paperOver is Over worked out another way.
func paperOver(list []api.Table, level int, low, high string) []int {
	var over []int
	for i := range list {
		if list[i].Level == level && hasOf(list[i], low, high) {
			over = append(over, list[i].File)
		}
	}
	return over
}

// paperFind is Find worked out another way.
func paperFind(list []api.Table, key string) []int {
	var found []int
	for i := range list {
		if has(list[i], key) {
			found = append(found, list[i].File)
		}
	}
	return found
}

// paperLeaves answers which tables leave their level, by their places in the list, and the level.
func paperLeaves(list []api.Table, fan int) ([]int, int) {
	places := map[int][]int{}
	for i, x := range list {
		places[x.Level] = append(places[x.Level], i)
	}
	if len(places[0]) >= fan {
		return places[0], 0
	}
	for level := 1; level < 5; level++ {
		if len(places[level]) <= power(fan, level) {
			continue
		}
		least := places[level][0]
		for _, at := range places[level] {
			if list[at].File < list[least].File {
				least = at
			}
		}
		return []int{least}, level
	}
	return nil, 0
}

// paperEnds answers the least Low and the greatest High of the tables that stand at the places.
func paperEnds(list []api.Table, places []int) (string, string) {
	var lows, highs []string
	for _, at := range places {
		lows = append(lows, list[at].Low)
		highs = append(highs, list[at].High)
	}
	slices.Sort(lows)
	slices.Sort(highs)
	return lows[0], highs[len(highs)-1]
}

// paperPick is Pick worked out another way, told as a text.
func paperPick(list []api.Table, fan int) string {
	if !slices.Contains([]int{2, 3, 4, 5, 6, 7, 8, 9, 10, 11, 12, 13, 14, 15, 16}, fan) {
		return "none"
	}
	places, level := paperLeaves(list, fan)
	if places == nil {
		return "none"
	}
	low, high := paperEnds(list, places)
	for at, x := range list {
		if x.Level == level+1 && hasOf(x, low, high) {
			places = append(places, at)
		}
	}
	low, high = paperEnds(list, places)
	bottom := " bottom"
	for _, x := range list {
		if x.Level >= level+2 && hasOf(x, low, high) {
			bottom = ""
		}
	}
	var in []int
	for _, at := range places {
		in = append(in, list[at].File)
	}
	return fmt.Sprintf("%s > %d %s-%s%s", files(in), level+1, low, high, bottom)
}

// ranges answers all ranges of the keys, those whose low is above their high among them if wild.
func ranges(keys []string, wild bool) [][2]string {
	var list [][2]string
	for _, low := range keys {
		for _, high := range keys {
			if wild || low <= high {
				list = append(list, [2]string{low, high})
			}
		}
	}
	return list
}

// P14.1: all ranges against all tables of a few keys, tables with Low above High, which no state has, among them.
func TestAllRanges(t *testing.T) {
	keys := []string{"", "\x00", "a", "aa", "b", "c", "\x80", "\xff"}
	for _, x := range ranges(keys, true) {
		list := []api.Table{{File: 1, Level: 2, Low: x[0], High: x[1]}}
		for _, r := range ranges(keys, true) {
			wantOver(t, list, 2, r[0], r[1], files(paperOver(list, 2, r[0], r[1])))
			wantOver(t, list, 1, r[0], r[1], "")
		}
		for _, key := range keys {
			wantFind(t, list, key, files(paperFind(list, key)))
		}
	}
}

// P14.2: all lists of three tables of three keys and all levels, held against the other working-out.
func TestAllOfThree(t *testing.T) {
	var choice []api.Table
	for level := range api.MaxLevels {
		for _, r := range ranges([]string{"a", "b", "c"}, false) {
			choice = append(choice, api.Table{Level: level, Low: r[0], High: r[1]})
		}
	}
	list := make([]api.Table, 3)
	for _, order := range [][3]int{{1, 2, 3}, {3, 1, 2}, {2, 3, 1}} {
		for i := range choice {
			for j := range choice {
				for k := range choice {
					list[0], list[1], list[2] = choice[i], choice[j], choice[k]
					for at, file := range order {
						list[at].File = file
					}
					wantPick(t, list, 2, paperPick(list, 2))
				}
			}
		}
		if t.Failed() {
			return
		}
	}
}

// P14.2: all ranges of four keys that leave, that stand in level Out and that stand below it.
func TestAllOfThreeLevels(t *testing.T) {
	all := ranges([]string{"a", "b", "c", "d"}, false)
	for level := range 4 {
		var leave []api.Table
		if level > 0 {
			for i := range power(2, level) {
				leave = append(leave, api.Table{File: 100 + i, Level: level, Low: "~", High: "~"})
			}
		}
		for _, one := range all {
			for _, two := range all {
				for _, three := range all {
					for _, four := range all {
						list := append(slices.Clone(leave),
							api.Table{File: 9, Level: level, Low: one[0], High: one[1]},
							api.Table{File: 10, Level: level, Low: two[0], High: two[1]},
							api.Table{File: 3, Level: level + 1, Low: three[0], High: three[1]},
							api.Table{File: 2, Level: level + 2, Low: four[0], High: four[1]})
						wantPick(t, list, 2, paperPick(list, 2))
					}
				}
			}
		}
		if t.Failed() {
			return
		}
	}
}

// drawnKey answers a key out of so many.
func drawnKey(r *rand.Rand, keys int) string { return fmt.Sprintf("%04d", r.IntN(keys)) }

// drawnTable answers a table of a level, the keys of which are so wide apart at most.
func drawnTable(r *rand.Rand, file, level, keys, wide int) api.Table {
	low := r.IntN(keys)
	return api.Table{File: file, Level: level, Count: 1 + r.IntN(9), Low: fmt.Sprintf("%04d", low), High: fmt.Sprintf("%04d", min(keys-1, low+r.IntN(wide)))}
}

// drawnState answers a state of at most so many tables: what Apply refuses isn't in it.
func drawnState(r *rand.Rand, most int) api.State {
	s := api.State{}
	keys, wide, low := 1+r.IntN(400), 1+r.IntN(20), r.IntN(api.MaxLevels)
	deep := low + r.IntN(api.MaxLevels-low)
	for _, at := range r.Perm(most) {
		x := drawnTable(r, at+1, low+r.IntN(deep-low+1), keys, wide)
		if next, e := manifest.Apply(s, add(x)); e == api.OK {
			s = next
		}
	}
	return s
}

// add answers the edit that adds a table.
func add(x api.Table) api.Edit {
	return api.Edit{Kind: api.AddTable, File: x.File, Level: x.Level, Count: x.Count, Low: x.Low, High: x.High}
}

// P14.1, P14.2: drawn states, and the same tables in any other order, held against the other working-out.
func TestDrawnStates(t *testing.T) {
	r := rand.New(rand.NewPCG(14, 1))
	picked, bottoms := map[int]int{}, map[bool]int{}
	for range 4000 {
		list := drawnState(r, 1+r.IntN(80)).Tables
		for range 2 {
			fan := r.IntN(18)
			if r.IntN(2) == 0 {
				fan = 2 + r.IntN(3)
			}
			wantPick(t, list, fan, paperPick(list, fan))
			if p, ok := levels.Pick(list, fan); ok {
				picked[p.Out]++
				bottoms[p.Bottom]++
			}
			checkRanges(t, r, list)
			r.Shuffle(len(list), func(i, j int) { list[i], list[j] = list[j], list[i] })
		}
		if t.Failed() {
			return
		}
	}
	for out := 1; out <= 3; out++ {
		if picked[out] < 50 {
			t.Errorf("the drawn states have few plans to level %d: %v", out, picked)
		}
	}
	if bottoms[false] < 50 || bottoms[true] < 50 {
		t.Errorf("the drawn states have few plans with a Bottom, or without: %v", bottoms)
	}
}

// checkRanges holds drawn ranges and keys against the other working-out.
func checkRanges(t *testing.T, r *rand.Rand, list []api.Table) {
	t.Helper()
	for range 4 {
		level, low, high := r.IntN(api.MaxLevels+2)-1, drawnKey(r, 400), drawnKey(r, 400)
		if len(list) > 0 && r.IntN(2) == 0 {
			low = list[r.IntN(len(list))].High
		}
		if len(list) > 0 && r.IntN(2) == 0 {
			high = list[r.IntN(len(list))].Low
		}
		wantOver(t, list, level, low, high, files(paperOver(list, level, low, high)))
		wantFind(t, list, low, files(paperFind(list, low)))
	}
}

// P14.1, P14.2: drawn tables that no state has: files that are one, keys that overlap, levels that aren't.
func TestDrawnTables(t *testing.T) {
	r := rand.New(rand.NewPCG(14, 2))
	for range 10000 {
		var list []api.Table
		first, count := r.IntN(3), r.IntN(4)
		for range r.IntN(60) {
			x := drawnTable(r, r.IntN(30)-2, first+r.IntN(count+1)-1, 30, 4)
			if r.IntN(9) == 0 {
				x.Low, x.High = x.High, x.Low
			}
			list = append(list, x)
		}
		fan := 1 + r.IntN(5)
		wantPick(t, list, fan, paperPick(list, fan))
		checkRanges(t, r, list)
		if t.Failed() {
			return
		}
	}
}

// replaced answers the state where the tables of the plan are replaced by others.
func replaced(t *testing.T, s api.State, p levels.Plan, others ...api.Table) api.State {
	t.Helper()
	var edits []api.Edit
	for _, file := range p.In {
		edits = append(edits, api.Edit{Kind: api.DropTable, File: file})
	}
	for _, x := range others {
		edits = append(edits, add(x))
	}
	next, e := manifest.Apply(s, edits...)
	if e != api.OK {
		t.Fatalf("%s: the plan %s with %s is refused: %d", told(s.Tables), plan(p, true), told(others), e)
	}
	return next
}

// freeFile answers a number that no file of the state has: above all of them, or drawn.
func freeFile(r *rand.Rand, s api.State) int {
	taken := manifest.Files(s)
	if r.IntN(2) == 0 {
		return 1 + slices.Max(taken)
	}
	for {
		if file := 1 + r.IntN(1000); !slices.Contains(taken, file) {
			return file
		}
	}
}

// cut answers tables of the level with drawn keys from low to high that don't overlap; the outermost ones reach as far as they may, if wide.
func cut(r *rand.Rand, p levels.Plan, first int, wide bool) []api.Table {
	ends := []string{p.Low, p.High}
	for range r.IntN(12) {
		// A key that stands behind Low by what it has more of, or one of the others.
		key := p.Low + drawnKey(r, 400)
		if r.IntN(2) == 0 {
			key = drawnKey(r, 400)
		}
		if p.Low < key && key < p.High {
			ends = append(ends, key)
		}
	}
	slices.Sort(ends)
	if !wide {
		ends = slices.Compact(ends)
		ends = ends[:len(ends)/2*2]
	} else if inner := slices.Compact(ends[1 : len(ends)-1]); len(inner)%2 == 0 {
		ends = slices.Concat([]string{p.Low}, inner, []string{p.High})
	} else {
		ends = []string{p.Low, p.High}
	}
	var list []api.Table
	for i := 0; i < len(ends); i += 2 {
		list = append(list, api.Table{File: first + len(list), Level: p.Out, Count: 1, Low: ends[i], High: ends[i+1]})
	}
	return list
}

// P14.3: of drawn states, the plan's tables replaced by others of level Out with keys from Low to High: one that has them all, several, or none.
func TestReplacedTables(t *testing.T) {
	r := rand.New(rand.NewPCG(14, 3))
	plans, several := map[int]int{}, 0
	for range 3000 {
		s := drawnState(r, 2+r.IntN(80))
		for fan := 2; fan <= 6; fan++ {
			p, ok := levels.Pick(s.Tables, fan)
			if !ok {
				continue
			}
			plans[p.Out]++
			replaced(t, s, p)
			replaced(t, s, p, api.Table{File: freeFile(r, s), Level: p.Out, Count: 1, Low: p.Low, High: p.High})
			for _, wide := range []bool{false, true} {
				list := cut(r, p, 1000, wide)
				if len(list) > 1 {
					several++
				}
				replaced(t, s, p, list...)
			}
		}
	}
	if plans[1] < 50 || plans[2] < 50 || plans[3] < 50 || several < 50 {
		t.Errorf("the drawn states have few plans: %v, %d", plans, several)
	}
}

// merged answers the state behind the plan, done with one table.
func merged(t *testing.T, r *rand.Rand, s api.State, p levels.Plan) api.State {
	t.Helper()
	x := api.Table{File: freeFile(r, s), Level: p.Out, Count: 1, Low: p.Low, High: p.High}
	if r.IntN(4) == 0 {
		// What is merged may have fewer keys, but not others.
		x.Low = x.High
	}
	return replaced(t, s, p, x)
}

// settle does plans, each with one table, until there is nothing to be merged, and answers the state then and how many there were: as many as there may be, at most.
func settle(t *testing.T, r *rand.Rand, s api.State, fan int) (api.State, int) {
	t.Helper()
	times, most := 0, len(s.Tables)*api.MaxLevels
	for {
		p, ok := levels.Pick(s.Tables, fan)
		if !ok {
			return s, times
		}
		if times++; times > most {
			t.Fatalf("behind %d plans of %d tables there is one more: %s", most, most/api.MaxLevels, plan(p, ok))
		}
		s = merged(t, r, s, p)
	}
}

// wantSettled holds that no level has more tables than it may have.
func wantSettled(t *testing.T, s api.State, fan int) {
	t.Helper()
	var counts [api.MaxLevels]int
	for _, x := range s.Tables {
		counts[x.Level]++
	}
	for level, count := range counts {
		if level == 0 && count >= fan || level > 0 && level < 5 && count > power(fan, level) {
			t.Errorf("in the end level %d has %d tables, with a fan of %d", level, count, fan)
		}
	}
}

// P14.3: done again and again with one table each, in the end nothing is to be merged, behind few enough times.
func TestNothingToBeMergedInTheEnd(t *testing.T) {
	r := rand.New(rand.NewPCG(14, 4))
	longest := 0
	for range 1500 {
		s := drawnState(r, 2+r.IntN(120))
		fan := 2 + r.IntN(5)
		end, times := settle(t, r, s, fan)
		wantSettled(t, end, fan)
		longest = max(longest, times)
	}
	if longest < 20 {
		t.Errorf("of no drawn state more than %d plans were done", longest)
	}
}

// P14.3: many tables of level 1 that lie apart go down one by one, through all levels.
func TestManyTablesGoDown(t *testing.T) {
	r := rand.New(rand.NewPCG(14, 5))
	for _, fan := range []int{2, 3} {
		s := api.State{}
		for i, x := range row(1, 60*fan, 1) {
			x.File = (i*7)%(60*fan) + 1
			next, e := manifest.Apply(s, add(x))
			if e != api.OK {
				t.Fatal(e)
			}
			s = next
		}
		end, times := settle(t, r, s, fan)
		wantSettled(t, end, fan)
		if len(end.Tables) != len(s.Tables) || times < len(s.Tables) {
			t.Errorf("a fan of %d: %d tables became %d by %d plans", fan, len(s.Tables), len(end.Tables), times)
		}
	}
}

// contents is what each table has, by its file and by the key: the number of the newest table that came with the key.
type contents map[int]map[string]int

// merge puts what the files of a plan have into one, the newest of each key.
func (c contents) merge(in []int, file int) {
	c[file] = map[string]int{}
	for _, from := range slices.Backward(in) {
		for key, came := range c[from] {
			c[file][key] = came
		}
		delete(c, from)
	}
}

// P14.2, P14.3: tables that come into level 0 one by one, merged as soon as there is a plan: the first one of those that may have a key, and has it, has the newest of it, and what Bottom tells is so.
func TestNewestStandsFirst(t *testing.T) {
	r := rand.New(rand.NewPCG(14, 6))
	for range 40 {
		s, fan := api.State{}, 2+r.IntN(3)
		c, newest := contents{}, map[string]int{}
		for came := 1; came <= 60; came++ {
			x := drawnTable(r, came*100, 0, 60, 8)
			s = replaced(t, s, levels.Plan{}, x)
			newest[x.Low], newest[x.High] = came, came
			c[x.File] = map[string]int{x.Low: came, x.High: came}
			s = mergeAll(t, s, c, fan, x.File+1)
			for key, want := range newest {
				wantFirst(t, s, c, key, want)
			}
		}
	}
}

// mergeAll does plans until there is nothing to be merged, into the files from the first one on.
func mergeAll(t *testing.T, s api.State, c contents, fan, first int) api.State {
	t.Helper()
	for file := first; ; file++ {
		p, ok := levels.Pick(s.Tables, fan)
		if !ok {
			return s
		}
		if p.Bottom {
			wantBottom(t, p, c)
		}
		c.merge(p.In, file)
		s = replaced(t, s, p, api.Table{File: file, Level: p.Out, Count: 1, Low: p.Low, High: p.High})
	}
}

// wantBottom holds that no table beside the plan's has an older number of a key than one of these: what is gone hides nothing there.
func wantBottom(t *testing.T, p levels.Plan, c contents) {
	t.Helper()
	for file, keys := range c {
		if slices.Contains(p.In, file) {
			continue
		}
		for key, came := range keys {
			for _, in := range p.In {
				if mine, there := c[in][key]; there && came < mine {
					t.Fatalf("the plan %s hides what the file %d has of %s", plan(p, true), file, key)
				}
			}
		}
	}
}

// wantFirst holds that the first one of the tables that may have a key, and has it, has this number of it.
func wantFirst(t *testing.T, s api.State, c contents, key string, want int) {
	t.Helper()
	for _, file := range levels.Find(s.Tables, key) {
		if came, there := c[file][key]; there {
			if came != want {
				t.Fatalf("%s: of %s the file %d has number %d; want %d", told(s.Tables), key, file, came, want)
			}
			return
		}
	}
	t.Fatalf("%s: no table has %s", told(s.Tables), key)
}
