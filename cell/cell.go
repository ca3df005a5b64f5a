// Package cell says what cells may be, for the pages of either engine: see shared/doc/06-plain.md, section Cells; and what names may be, by which the catalog tells trees.
package cell

import "espalier/api"

// No leaf or branch stands in the two meta pages.
const (
	leastPage = 2
	mostPage  = api.MaxPages - 1
)

// IsKind tells whether pages with cells have that kind.
func IsKind(kind int) bool { return kind == api.PageLeaf || kind == api.PageBranch }

// IsSize tells whether a page may have so many bytes.
func IsSize(page int) bool {
	return within(page, api.MinPage, api.MaxPage) && page&(page-1) == 0
}

// MostKey and MostValue tell how long keys and values may be in a page of that size.
func MostKey(page int) int { return page / 8 }

func MostValue(page int) int { return page / 16 * 3 }

// MayBe tells whether the cell may stand in a page of that kind and size.
func MayBe(kind, page int, c api.Cell) bool {
	if len(c.Key) > MostKey(page) {
		return false
	}
	if kind == api.PageBranch {
		return c.Kind == api.CellChild && len(c.Value) == 0 && leads(c, 1, api.MaxLimit)
	}
	return len(c.Key) > 0 && mayBeInLeaf(page, c)
}

func mayBeInLeaf(page int, c api.Cell) bool {
	if c.Kind == api.CellValue {
		return len(c.Value) <= MostValue(page) && leadsNowhere(c)
	}
	if len(c.Value) > 0 {
		return false
	}
	switch c.Kind {
	case api.CellSpill:
		return leads(c, MostValue(page)+1, api.MaxValue)
	case api.CellTree:
		return leadsNowhere(c) || leads(c, 1, api.MaxLimit)
	}
	return false
}

// leads tells whether the cell has a page that may be, and a count from least to most.
func leads(c api.Cell, least, most int) bool {
	return within(c.Page, leastPage, mostPage) && within(c.Count, least, most)
}

func leadsNowhere(c api.Cell) bool { return c.Page == 0 && c.Count == 0 }

func within(n, least, most int) bool { return n >= least && n <= most }
