package tree

import (
	"slices"

	"espalier/api"
	"espalier/ink"
	"espalier/node"
)

// part is a page that is to be written, and the cell that leads to it, still without its number.
type part struct {
	lead  api.Cell
	bytes []byte
}

// laid lays cells into a page, or two, in the place of old ones, and is the cells that lead there; the first of them has that key.
func (c *change) laid(kind int, key []byte, cells []api.Cell, old ...int) []api.Cell {
	var leads []api.Cell
	parts := c.parts(kind, key, cells)
	pages := c.pages(len(parts), old)
	for i, p := range parts {
		must(c.room.Write(pages[i], p.bytes))
		p.lead.Page = pages[i]
		leads = append(leads, p.lead)
	}
	return leads
}

// parts is the pages of these cells: one, two if one is too small, none if there are no cells.
func (c *change) parts(kind int, key []byte, cells []api.Cell) []part {
	if len(cells) == 0 {
		return nil
	}
	engine, page := c.room.Engine(), c.room.Size()
	b, e := node.Encode(engine, kind, cells, page)
	if e == api.OK {
		return []part{{api.Cell{Kind: api.CellChild, Key: key, Count: entries(kind, cells)}, b}}
	}
	// The cells of a good tree may be and rise; and those that are too many for one page go into two (P8.7).
	k, half := node.Half(engine, kind, cells, page)
	if e != api.ErrFit || half != api.OK {
		must(api.ErrTree)
	}
	bound, right := cut(kind, cells, k)
	return append(c.parts(kind, key, cells[:k]), c.parts(kind, bound, right)...)
}

// cut is the cells from k on as those of a page of their own, and the key that leads there. The keys rise.
func cut(kind int, cells []api.Cell, k int) ([]byte, []api.Cell) {
	if kind == api.PageLeaf {
		bound, _ := ink.Between(cells[k-1].Key, cells[k].Key)
		return bound, cells[k:]
	}
	right := slices.Clone(cells[k:])
	right[0].Key = nil
	return cells[k].Key, right
}

// entries is how many entries the cells stand for.
func entries(kind int, cells []api.Cell) int {
	if kind == api.PageLeaf {
		return len(cells)
	}
	sum := 0
	for _, c := range cells {
		sum += c.Count
	}
	return sum
}

// pages is n pages that may be written: of the old ones those that are fresh, and else new ones. What is left of the old ones is gone.
func (c *change) pages(n int, old []int) []int {
	var pages []int
	for _, page := range old {
		if len(pages) < n && c.room.Fresh(page) {
			pages = append(pages, page)
		} else {
			c.gone = append(c.gone, page)
		}
	}
	for len(pages) < n {
		page, e := c.room.Alloc()
		must(e)
		pages = append(pages, page)
	}
	return pages
}
