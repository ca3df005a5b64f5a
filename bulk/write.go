package bulk

import (
	"espalier/api"
	"espalier/node"
)

// write takes and writes the pages of a tree: its root, 0 if there are none.
func (l layout) write(r api.Room, sheets []sheet) (int, api.Errno) {
	root := 0
	var below []int // pages to which no branch leads yet, in order
	for _, s := range sheets {
		if s.kind == api.PageBranch {
			below = s.lead(below)
		}
		page, e := l.writeOne(r, s)
		if e != api.OK {
			return 0, e
		}
		root = page
		below = append(below, page)
	}
	return root, api.OK
}

// lead makes a branch's cells lead to the first pages that there are below, and is those that are left.
func (s sheet) lead(below []int) []int {
	for i := range s.cells {
		s.cells[i].Page = below[i]
	}
	return below[len(s.cells):]
}

func (l layout) writeOne(r api.Room, s sheet) (int, api.Errno) {
	b, e := node.Encode(l.engine, s.kind, s.cells, l.page)
	if e != api.OK {
		return 0, e
	}
	page, e := r.Alloc()
	if e != api.OK {
		return 0, e
	}
	return page, r.Write(page, b)
}
