package bulk

import (
	"sort"

	"espalier/api"
	"espalier/ink"
	"espalier/node"
)

const (
	leastRun = 2                // cells of a page, if there are so many
	anyPage  = api.MaxPages - 1 // what leads to a page counts as if it led here, whichever page it will be
)

// layout says how pages are laid.
type layout struct {
	engine, page, fill int
}

// sheet is a page that is to be written: its cells, and the key that leads to it.
type sheet struct {
	kind  int
	key   []byte
	cells []api.Cell
}

// tree is the pages of the tree of these cells, in the order in which they are laid: the last one is the root.
func (l layout) tree(cells []api.Cell) []sheet {
	level := l.lay(api.PageLeaf, cells)
	all := level
	for len(level) > 1 {
		level = l.lay(api.PageBranch, leads(level))
		all = append(all, level...)
	}
	return all
}

// lay lays a row of cells into pages of a kind. From a branch's row it takes the keys that go up.
func (l layout) lay(kind int, row []api.Cell) []sheet {
	var sheets []sheet
	for at := 0; at < len(row); {
		key := bound(kind, row, at)
		if kind == api.PageBranch {
			row[at].Key = nil
		}
		n := l.run(kind, row[at:])
		sheets = append(sheets, sheet{kind, key, row[at : at+n]})
		at += n
	}
	return sheets
}

// bound is the key that leads to a page whose first cell stands at that place of the row.
func bound(kind int, row []api.Cell, at int) []byte {
	if at == 0 {
		return nil
	}
	if kind == api.PageBranch {
		// It has come up from between the same two leaves.
		return row[at].Key
	}
	key, _ := ink.Between(row[at-1].Key, row[at].Key)
	return key
}

// leads is the cells that lead to the pages of a level.
func leads(level []sheet) []api.Cell {
	row := make([]api.Cell, len(level))
	for i, s := range level {
		row[i] = api.Cell{Kind: api.CellChild, Key: s.key, Page: anyPage, Count: s.entries()}
	}
	return row
}

// entries is how many entries lie below a page.
func (s sheet) entries() int {
	if s.kind == api.PageLeaf {
		return len(s.cells)
	}
	sum := 0
	for _, c := range s.cells {
		sum += c.Count
	}
	return sum
}

// run is how many cells the next page takes from the left. It leaves none alone.
func (l layout) run(kind int, row []api.Cell) int {
	n := l.most(kind, row)
	switch {
	case len(row)-n != 1:
		return n
	case n > leastRun:
		return n - 1
	default:
		return n + 1
	}
}

// most is how many cells go together as the fill has it. The more cells, the more bytes: what is too full stays so with more of them. So they need not be tried one by one; and what lies far behind a run is not looked at, for rows are long.
func (l layout) most(kind int, row []api.Cell) int {
	if len(row) <= leastRun {
		return len(row)
	}
	end := 2 * leastRun
	for end < len(row) && l.holds(kind, row[:end]) {
		end *= 2
	}
	end = min(end, len(row))
	more := sort.Search(end-leastRun, func(i int) bool { return !l.holds(kind, row[:leastRun+i+1]) })
	return leastRun + more
}

// holds tells whether a page with these cells is not too full.
func (l layout) holds(kind int, cells []api.Cell) bool {
	return node.Fill(l.engine, kind, cells, l.page) <= l.fill && node.Fits(l.engine, kind, cells, l.page)
}
