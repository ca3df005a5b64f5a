package ship

import (
	"slices"

	"espalier/api"
	"espalier/free"
	"espalier/node"
	"espalier/spill"
	"espalier/store"
	"espalier/walk"
)

// pagesBetween is the pages that a look has and an earlier one (nil: none) has not, by rising numbers. A page that both have has not changed: as long as somebody looks at a commit none of its pages is written.
func pagesBetween(from, to *store.View) ([]api.PageData, api.Errno) {
	had, e := pagesOf(from)
	if e != api.OK {
		return nil, e
	}
	has, e := pagesOf(to)
	if e != api.OK {
		return nil, e
	}
	var pages []api.PageData
	for _, n := range without(has, had) {
		b, e := to.Room().Read(n)
		if e != api.OK {
			return nil, e
		}
		pages = append(pages, api.PageData{Page: n, Data: b})
	}
	return pages, api.OK
}

// without is the numbers that the one set has and the other one has not, rising.
func without(has, had map[int]struct{}) []int {
	var l []int
	for n := range has {
		if _, is := had[n]; !is {
			l = append(l, n)
		}
	}
	slices.Sort(l)
	return l
}

// pagesOf is the pages of a look: those of its trees and of their values' chains, and those in which its free list stands. A look that is nil has none.
func pagesOf(v *store.View) (map[int]struct{}, api.Errno) {
	if v == nil {
		return nil, api.OK
	}
	g := gathering{room: v.Room(), pages: map[int]struct{}{}}
	m := v.Meta()
	if e := g.trees(m.Root); e != api.OK {
		return nil, e
	}
	if e := g.list(m.Free); e != api.OK {
		return nil, e
	}
	return g.pages, api.OK
}

// gathering is what was gathered of a look's pages, and the tree pages that were met on the way but not gone into yet.
type gathering struct {
	room  api.Room
	pages map[int]struct{}
	ahead []int
}

// enter takes a page in; false, if there is none, or it is in already: in a store that is broken a way may lead round for ever.
func (g *gathering) enter(page int) bool {
	if _, is := g.pages[page]; is || page == 0 {
		return false
	}
	g.pages[page] = struct{}{}
	return true
}

// trees gathers all that a catalog leads to.
func (g *gathering) trees(catalog int) api.Errno {
	g.ahead = []int{catalog}
	for len(g.ahead) > 0 {
		last := len(g.ahead) - 1
		page := g.ahead[last]
		g.ahead = g.ahead[:last]
		if !g.enter(page) {
			continue
		}
		n, e := walk.Read(g.room, page)
		if e != api.OK {
			return e
		}
		if e := g.cells(n); e != api.OK {
			return e
		}
	}
	return api.OK
}

// cells goes on to where a tree page's cells lead: to pages further down, to other trees, to chains.
func (g *gathering) cells(n node.Node) api.Errno {
	for at := range n.Len() {
		c, e := n.Cell(at)
		if e != api.OK {
			return e
		}
		switch c.Kind {
		case api.CellChild, api.CellTree:
			g.ahead = append(g.ahead, c.Page)
		case api.CellSpill:
			if e := g.chain(c); e != api.OK {
				return e
			}
		}
	}
	return api.OK
}

func (g *gathering) chain(c api.Cell) api.Errno {
	pages, e := spill.List(g.room, c.Page, c.Count)
	if e != api.OK {
		return e
	}
	for _, page := range pages {
		g.enter(page)
	}
	return api.OK
}

// list gathers the pages in which a free list stands; those that it lists belong to nobody.
func (g *gathering) list(first int) api.Errno {
	for page := first; g.enter(page); {
		b, e := g.room.Read(page)
		if e != api.OK {
			return e
		}
		page, _, e = free.Decode(b)
		if e != api.OK {
			return e
		}
	}
	return api.OK
}
