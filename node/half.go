package node

import (
	"slices"
	"sort"

	"espalier/api"
	"espalier/cell"
)

// leastCells is how many cells either side of a cut must have.
const leastCells = 2

// Half tells where to cut cells into two pages.
func Half(engine, kind int, cells []api.Cell, page int) (int, api.Errno) {
	l, is := layoutOf(engine)
	if !is {
		return 0, api.ErrEngine
	}
	if !cell.IsKind(kind) || !cell.IsSize(page) {
		return 0, api.ErrArg
	}
	left := func(k int) []api.Cell { return cells[:k] }
	right := func(k int) []api.Cell { return rightSide(kind, cells[k:]) }
	// From one cut to the next the left side gains a cell and the right side loses one. So what fits on the right fits at all later cuts, on the left at all earlier ones: the cuts that may be stand in a row.
	last := len(cells) - leastCells
	first := least(leastCells, last+1, func(k int) bool { return l.fits(kind, right(k), page) })
	end := least(first, last+1, func(k int) bool { return !l.fits(kind, left(k), page) })
	if first >= end {
		return 0, api.ErrFit
	}
	// Since the left Size only grows in that row and the right one only shrinks, the greater one falls, and from the best cut on it rises.
	greater := func(k int) int { return max(l.size(kind, left(k)), l.size(kind, right(k))) }
	return least(first, end-1, func(k int) bool { return greater(k) <= greater(k+1) }), api.OK
}

// rightSide is the cells of a right side; a branch's first key has gone up, into the branch above.
func rightSide(kind int, cells []api.Cell) []api.Cell {
	if kind != api.PageBranch || len(cells) == 0 {
		return cells
	}
	side := slices.Clone(cells)
	side[0].Key = nil
	return side
}

// least is the least number from low on of which is holds, as it does of all above it; high, if it holds of none below high.
func least(low, high int, is func(k int) bool) int {
	return low + sort.Search(high-low, func(i int) bool { return is(low + i) })
}
