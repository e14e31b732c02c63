package lsm

import (
	"math"

	"silo/api"
	"silo/manifest"
	"silo/wal"
)

const (
	// frameMost is how many bytes a log's frame has at most beside its record: the record's length, and the sum.
	frameMost = 16
	// noteBlocks is by how many blocks more are kept free, at most, when one store more is noted: one for each of two manifests.
	noteBlocks = 2
)

// blocks answers how many blocks a file of so many bytes takes.
func blocks(size int) int { return 1 + size/api.Block + min(size%api.Block, 1) }

// growth answers how many blocks a file of so many bytes takes more with so many bytes more; a file of fewer than none is a new one.
func growth(has, more int) int {
	more = max(more, 0)
	switch {
	case has < 0:
		return blocks(more)
	case more > math.MaxInt-has:
		// No tier has so many blocks.
		return math.MaxInt
	}
	return blocks(has+more) - blocks(has)
}

// sheetBlocks answers how many blocks a manifest takes at most whose first record tells these edits, and behind which there is a mark.
func sheetBlocks(edits []api.Edit) (n int, ok bool) {
	size := len(manifest.Pack(edits))
	return blocks(size + frameMost + len(wal.Frame(manifest.Pack(nil)))), size <= api.MaxRecord
}

// needOf answers how many blocks must be free, or be taken by manifests, so that an index of this state can be opened again, however often; and whether a manifest can tell all of that.
func needOf(s api.State) (n int, ok bool) {
	// An opening adds a log, behind which the next opening adds another one in its stead. There are two manifests for a time, and two such logs.
	edits := append(manifest.Whole(s), api.Edit{Kind: api.AddLog, File: math.MaxInt}, api.Edit{Kind: api.SetNext, File: math.MaxInt})
	n, ok = sheetBlocks(edits)
	return 2 * (n + blocks(0)), ok
}

// taken answers how many blocks of the tier Hot are taken by what isn't a manifest.
func (x *Index) taken() int {
	n := x.disk.Used(api.Hot)
	for _, file := range []int{x.book.File(), x.sheet} {
		if size, t, e := x.disk.Size(file); e == api.OK && t == api.Hot {
			n -= blocks(size)
		}
	}
	return n
}

// spare answers how many blocks of the tier Hot may be taken, so that the index can be opened again.
func (x *Index) spare() int { return x.disk.Room(api.Hot) - x.taken() - x.need }

// may answers whether so many blocks of the tier Hot may be taken.
func (x *Index) may(n int) api.Errno {
	// Who takes none takes none from the index either, were there too few of them already.
	if n > 0 && n > x.spare() {
		return api.ErrFull
	}
	return api.OK
}

// mayBe answers whether the state may be this one while so many blocks more are taken.
func (x *Index) mayBe(s api.State, more int) api.Errno {
	need, ok := needOf(s)
	if !ok {
		return api.ErrFull
	}
	return x.may(more + max(need-x.need, 0))
}

// Room tells whether a tier has room for so many bytes more in a file that has so many, or (below 0) in a new one.
func (x *Index) Room(t api.Tier, has, more int) bool {
	n := growth(has, more)
	switch t {
	case api.Hot:
		return n == 0 || n <= x.spare()-noteBlocks
	case api.Cold:
		return n <= x.disk.Room(t)-x.disk.Used(t)
	}
	return false
}
