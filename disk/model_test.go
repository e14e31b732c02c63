package disk_test

import (
	"fmt"
	"strings"
	"testing"

	"silo/api"
	"silo/disk"
)

// paper is a disk worked out another way: each file has its bytes one by one, each with its mark, and all else is counted anew.
type paper struct {
	room  map[api.Tier]int
	files []*sheet // rising
	root  *sheet
	done  int
	fuse  *int // changes until the power goes; nil: it doesn't
	dark  bool
}

type sheet struct {
	n    int
	tier api.Tier
	text string
	mark string // 's' of a byte that is sure, 'u' of another one
	sure bool
}

func newPaper(hot, cold int) *paper {
	return &paper{room: map[api.Tier]int{api.Hot: hot, api.Cold: cold}}
}

func (p *paper) sheet(n int) *sheet {
	for _, x := range p.files {
		if x.n == n {
			return x
		}
	}
	return nil
}

func (p *paper) used(t api.Tier) int {
	sum := 0
	for _, x := range p.files {
		if x.tier == t {
			sum++
			for at := 0; at < len(x.text); at += 64 {
				sum++
			}
		}
	}
	return sum
}

// burns tells whether the power goes just at this change.
func (p *paper) burns() bool {
	if p.fuse != nil && *p.fuse == 0 {
		p.dark = true
		return true
	}
	if p.fuse != nil {
		*p.fuse--
	}
	p.done++
	return false
}

func (p *paper) make(t api.Tier, n int) api.Errno {
	room, isTier := p.room[t]
	switch {
	case p.dark:
		return api.ErrDown
	case !isTier || n <= 0:
		return api.ErrArg
	case p.sheet(n) != nil:
		return api.ErrThere
	case p.used(t) == room:
		return api.ErrFull
	case p.burns():
		return api.ErrDown
	}
	at := 0
	for at < len(p.files) && p.files[at].n < n {
		at++
	}
	rest := append([]*sheet{{n: n, tier: t}}, p.files[at:]...)
	p.files = append(p.files[:at:at], rest...)
	return api.OK
}

func (p *paper) add(n int, s string) api.Errno {
	x := p.sheet(n)
	switch {
	case p.dark:
		return api.ErrDown
	case x == nil:
		return api.ErrNone
	}
	was := x.text
	x.text += s
	if p.used(x.tier) > p.room[x.tier] {
		x.text = was
		return api.ErrFull
	}
	x.mark += strings.Repeat("u", len(s))
	if p.burns() {
		return api.ErrDown
	}
	return api.OK
}

func (p *paper) sync(n int) api.Errno {
	x := p.sheet(n)
	switch {
	case p.dark:
		return api.ErrDown
	case x == nil:
		return api.ErrNone
	case p.burns():
		return api.ErrDown
	}
	x.mark, x.sure = strings.Repeat("s", len(x.text)), true
	return api.OK
}

func (p *paper) drop(n int) api.Errno {
	x := p.sheet(n)
	switch {
	case p.dark:
		return api.ErrDown
	case x == nil:
		return api.ErrNone
	case x == p.root:
		return api.ErrState
	case p.burns():
		return api.ErrDown
	}
	p.remove(x)
	return api.OK
}

func (p *paper) remove(gone *sheet) {
	var left []*sheet
	for _, x := range p.files {
		if x != gone {
			left = append(left, x)
		}
	}
	p.files = left
}

func (p *paper) point(n int) api.Errno {
	x := p.sheet(n)
	switch {
	case p.dark:
		return api.ErrDown
	case x == nil:
		return api.ErrNone
	case !x.sure || strings.Contains(x.mark, "u"):
		return api.ErrState
	case p.burns():
		return api.ErrDown
	}
	p.root = x
	return api.OK
}

func (p *paper) read(n, at, size int) (string, api.Errno) {
	x := p.sheet(n)
	switch {
	case p.dark:
		return "", api.ErrDown
	case x == nil:
		return "", api.ErrNone
	case at < 0 || size < 0 || at+size > len(x.text):
		return "", api.ErrArg
	}
	return x.text[at : at+size], api.OK
}

func (p *paper) arm(n int) {
	p.fuse = nil
	if n >= 0 {
		p.fuse = &n
	}
}

func (p *paper) back(keeps []api.Keep) {
	for _, x := range append([]*sheet(nil), p.files...) {
		named, more := false, 0
		for i := len(keeps) - 1; i >= 0; i-- {
			if keeps[i].File == x.n {
				named, more = true, keeps[i].Bytes
			}
		}
		if !named && !x.sure {
			p.remove(x)
			continue
		}
		for at := range len(x.text) {
			if x.mark[at] == 'u' {
				if more <= 0 {
					x.text = x.text[:at]
					break
				}
				more--
			}
		}
		x.mark, x.sure = strings.Repeat("s", len(x.text)), true
	}
	p.dark, p.fuse = false, nil
}

// told is what a disk of the same calls tells, as the text that told answers of it.
func (p *paper) told() string {
	root := 0
	if p.root != nil {
		root = p.root.n
	}
	var numbers []int
	var b strings.Builder
	for _, x := range p.files {
		numbers = append(numbers, x.n)
		if p.dark {
			fmt.Fprintf(&b, " [%d: 0 0 %d \"\" %d]", x.n, api.ErrDown, api.ErrDown)
		} else {
			fmt.Fprintf(&b, " [%d: %d %d 0 %q 0]", x.n, len(x.text), x.tier, x.text)
		}
	}
	return fmt.Sprintf("down %t root %d steps %d used %d %d room %d %d files %v", p.dark, root, p.done,
		p.used(api.Hot), p.used(api.Cold), p.room[api.Hot], p.room[api.Cold], numbers) + b.String()
}

// dice are numbers that look like no others, the same ones in each run.
type dice uint64

// roll answers a number from 0 on, below n.
func (x *dice) roll(n int) int {
	*x = *x*6364136223846793005 + 1442695040888963407
	return int(uint64(*x)>>33) % n
}

// text answers bytes, mostly few of them.
func (x *dice) text() string {
	size := x.roll(20)
	if x.roll(4) == 0 {
		size = []int{0, 63, 64, 65, 127, 128, 129, 300}[x.roll(8)]
	}
	list := make([]byte, size)
	for i := range list {
		list[i] = byte(x.roll(256))
	}
	return string(list)
}

// keeps answers Keeps of files that are there and of some that aren't, some named twice.
func (x *dice) keeps() []api.Keep {
	var list []api.Keep
	for range x.roll(9) {
		list = append(list, api.Keep{File: x.roll(9) - 1, Bytes: x.roll(80) - 5})
	}
	return list
}

// pair is a disk and its paper, to which the same things are done.
type pair struct {
	d *disk.Disk
	p *paper
}

// call does one call to both, and answers its text and what the two answered.
func (x pair) call(roll *dice) (string, api.Errno, api.Errno) {
	n := roll.roll(9) - 1
	switch kind := roll.roll(20); {
	case kind < 4:
		tier := api.Tier(roll.roll(2))
		if roll.roll(10) == 0 {
			tier = api.Tier(roll.roll(5) - 2)
		}
		return fmt.Sprintf("Make(%d, %d)", tier, n), x.d.Make(tier, n), x.p.make(tier, n)
	case kind < 10:
		s := roll.text()
		return fmt.Sprintf("Add(%d, %q)", n, s), x.d.Add(n, s), x.p.add(n, s)
	case kind < 13:
		return fmt.Sprintf("Sync(%d)", n), x.d.Sync(n), x.p.sync(n)
	case kind < 14:
		return fmt.Sprintf("Drop(%d)", n), x.d.Drop(n), x.p.drop(n)
	case kind < 15:
		return fmt.Sprintf("Point(%d)", n), x.d.Point(n), x.p.point(n)
	case kind < 17:
		at, size := roll.roll(70)-2, roll.roll(70)-2
		s, e := x.d.Read(n, at, size)
		s2, e2 := x.p.read(n, at, size)
		return fmt.Sprintf("Read(%d, %d, %d): %q, %q", n, at, size, s, s2), e + alike(s, s2), e2
	case kind < 19:
		left := roll.roll(12) - 2
		x.d.Arm(left)
		x.p.arm(left)
		return fmt.Sprintf("Arm(%d)", left), api.OK, api.OK
	}
	keeps := roll.keeps()
	x.d.Back(keeps...)
	x.p.back(keeps)
	return fmt.Sprintf("Back(%v)", keeps), api.OK, api.OK
}

// alike answers what makes an answer another one, if the texts differ.
func alike(a, b string) api.Errno {
	if a != b {
		return 1000
	}
	return 0
}

// P4.1 to P4.5: scripts of many calls, held against the other working-out behind each call.
func TestAgainstPaper(t *testing.T) {
	for seed := range 600 {
		roll := dice(seed)
		hot, cold := roll.roll(30), roll.roll(30)
		x := pair{fresh(t, hot, cold), newPaper(hot, cold)}
		for i := range 300 {
			call, got, want := x.call(&roll)
			if got != want {
				t.Fatalf("seed %d, call %d: %s = %d; want %d", seed, i, call, got, want)
			}
			if a, b := told(x.d), x.p.told(); a != b {
				t.Fatalf("seed %d, call %d: %s: told\n%s; want\n%s", seed, i, call, a, b)
			}
		}
	}
}

// P4.7: wherever the power goes, what was made sure is there until it is dropped, and each file's bytes are the beginning of what it had.
func TestSureBytesStay(t *testing.T) {
	for seed := range 300 {
		roll := dice(seed + 1<<20)
		d := fresh(t, 40, 40)
		sure, had := map[int]string{}, map[int]string{}
		for range 300 {
			n := 1 + roll.roll(7)
			switch roll.roll(12) {
			case 0, 1:
				if d.Make(api.Tier(n%2), n) == api.OK {
					had[n] = ""
				}
			case 2, 3, 4, 5:
				s := roll.text()
				down := d.Down()
				e := d.Add(n, s)
				if e == api.OK || e == api.ErrDown && !down {
					had[n] += s
				}
			case 6, 7:
				if d.Sync(n) == api.OK {
					sure[n] = had[n]
				}
			case 8:
				if d.Drop(n) == api.OK {
					delete(sure, n)
					delete(had, n)
				}
			case 9:
				d.Point(n)
			case 10:
				d.Arm(roll.roll(10))
			default:
				d.Back(roll.keeps()...)
				checkKept(t, d, sure, had)
				had = allBytes(t, d)
				sure = allBytes(t, d)
			}
		}
	}
}

// checkKept holds what there is behind a Back against what was sure and what there was.
func checkKept(t *testing.T, d *disk.Disk, sure, had map[int]string) {
	t.Helper()
	now := allBytes(t, d)
	for n, s := range sure {
		if got, there := now[n]; !there || !strings.HasPrefix(got, s) {
			t.Fatalf("the file %d had %q for sure; now %q", n, s, got)
		}
	}
	for n, s := range now {
		was, there := had[n]
		if !there || !strings.HasPrefix(was, s) {
			t.Fatalf("the file %d had %q; now %q", n, was, s)
		}
	}
	if root := d.Root(); root != 0 {
		if _, there := now[root]; !there {
			t.Fatalf("the root %d isn't there", root)
		}
	}
}

func allBytes(t *testing.T, d *disk.Disk) map[int]string {
	t.Helper()
	list := map[int]string{}
	for _, n := range d.Files() {
		size, _, e := d.Size(n)
		s, e2 := d.Read(n, 0, size)
		ok(t, e, e2)
		list[n] = s
	}
	return list
}
