package tree

import (
	"bytes"
	"slices"

	"espalier/api"
	"espalier/cell"
	"espalier/node"
)

const (
	leastCells = 2  // of a page that is no root
	leanFill   = 64 // in 256ths: a page that has lost a cell and is less full goes together with a neighbour, if one page has room for both
)

// changed is what a change answers: the root then, and the cell that stood there.
type changed struct {
	root int
	old  found
}

func put(r api.Room, root int, c api.Cell) changed {
	if !isSized(r.Size(), c) {
		must(api.ErrSize)
	}
	if !cell.MayBe(api.PageLeaf, r.Size(), c) {
		must(api.ErrCell)
	}
	afford(r, root)
	w := wayFor(r, root, c.Key)
	old := w.find(c.Key)
	return changed{changeLeaf(r, w, old, c), old}
}

func remove(r api.Room, root int, key []byte) changed {
	w := wayFor(r, root, key)
	old := w.find(key)
	if !old.is {
		return changed{root: root}
	}
	afford(r, root)
	return changed{changeLeaf(r, w, old), old}
}

// isSized tells whether key and value are as long as they may be in a page of that size.
func isSized(page int, c api.Cell) bool {
	if c.Kind == api.CellValue && len(c.Value) > node.MostValue(page) {
		return false
	}
	return len(c.Key) > 0 && len(c.Key) <= node.MostKey(page)
}

// afford asks whether the room has as many pages as a change may take.
func afford(r api.Room, root int) {
	if !r.Spare(Need(height(r, root))) {
		must(api.ErrFull)
	}
}

// changeLeaf lays cells where the way ends, in the place of the old one, if there is one: the root then.
func changeLeaf(r api.Room, w way, old found, cells ...api.Cell) int {
	c := &change{room: r}
	if len(w) == 0 {
		return c.rooted(api.PageLeaf, cells)
	}
	last := w[len(w)-1]
	from, to := last.at, last.at
	if old.is {
		to++
	}
	root := c.climb(w, slices.Replace(node.Cells(last.node), from, to, cells...))
	// Only now, so that no page is taken again in the change that gives it back.
	for _, page := range c.gone {
		must(r.Free(page))
	}
	return root
}

// change is a change of a tree that is under way.
type change struct {
	room api.Room
	gone []int // pages that the new tree does not have
}

// climb lays cells in the place of those of the way's last page, and goes up the way as far as something changes there: the root then.
func (c *change) climb(w way, cells []api.Cell) int {
	for i := len(w) - 1; i >= 0; i-- {
		above, at := w.above(i)
		now := c.renewed(above, at, w[i].node, cells)
		if slices.EqualFunc(now, above, leadAlike) {
			return w[0].page
		}
		cells = now
	}
	switch len(cells) {
	case 0:
		return 0
	case 1:
		return cells[0].Page
	}
	return c.rooted(api.PageBranch, cells)
}

// above is the cells of the branch above a page of the way, and the place of the one by which the way goes on. Above the root it is as if there were one that leads to it alone.
func (w way) above(i int) ([]api.Cell, int) {
	if i == 0 {
		return []api.Cell{{Kind: api.CellChild, Page: w[0].page}}, 0
	}
	return node.Cells(w[i-1].node), w[i-1].at
}

func leadAlike(a, b api.Cell) bool {
	return a.Page == b.Page && a.Count == b.Count && bytes.Equal(a.Key, b.Key)
}

// rooted lays cells into a page of their own, the root.
func (c *change) rooted(kind int, cells []api.Cell) int {
	return c.laid(kind, nil, cells)[0].Page
}

// renewed is the cells that the branch above has once the page at that place has these cells, and no longer those of old.
func (c *change) renewed(above []api.Cell, at int, old node.Node, cells []api.Cell) []api.Cell {
	kind, from, to := old.Kind(), at, at+1
	if len(above) > 1 && len(cells) < old.Len() && c.isLean(kind, cells) {
		cells, from, to = c.joined(above, at, kind, cells)
	}
	if len(above) == 1 && len(cells) == 1 && kind == api.PageBranch {
		// A root that leads to one page alone: that one is the root then.
		c.gone = append(c.gone, above[at].Page)
		return cells
	}
	var pages []int
	for _, lead := range above[from:to] {
		pages = append(pages, lead.Page)
	}
	return slices.Concat(above[:from], c.laid(kind, above[from].Key, cells, pages...), above[to:])
}

// isLean tells whether a page with these cells should go together with a neighbour.
func (c *change) isLean(kind int, cells []api.Cell) bool {
	return len(cells) < leastCells || node.Fill(c.room.Engine(), kind, cells, c.room.Size()) < leanFill
}

// joined is the cells of a lean page and of a neighbour together, and from where to where cells of the branch above lead to them. A page that has cells enough stays alone, if one page has no room for both.
func (c *change) joined(above []api.Cell, at, kind int, cells []api.Cell) ([]api.Cell, int, int) {
	var left, right []api.Cell
	second := max(at, 1)
	if at == second {
		left, right = node.Cells(read(c.room, above[at-1].Page)), cells
	} else {
		left, right = cells, node.Cells(read(c.room, above[second].Page))
	}
	both := slices.Concat(left, right)
	if kind == api.PageBranch && len(right) > 0 {
		// In its own page the first key is empty; what it stands for is told above.
		both[len(left)].Key = above[second].Key
	}
	if len(cells) >= leastCells && !node.Fits(c.room.Engine(), kind, both, c.room.Size()) {
		return cells, at, at + 1
	}
	return both, second - 1, second + 1
}
