package diff

import (
	"espalier/api"
	"espalier/spill"
	"espalier/store"
)

// pagesApart tells how many pages stand in one of two looks alone.
func pagesApart(a, b *store.View) (int, api.Errno) {
	l, e := looksOf(a, b)
	if e != api.OK {
		return 0, e
	}
	from, _ := l.from.grove.Root()
	to, _ := l.to.grove.Root()
	catalogs, e := l.part(from, to)
	if e != api.OK {
		return 0, e
	}
	all := catalogs.pages
	for _, name := range l.names() {
		pages, e := l.pagesOf(name)
		if e != api.OK {
			return 0, e
		}
		all += pages
	}
	return all, api.OK
}

// pagesOf tells how many of these are of the trees of one name, and of their values.
func (l looks) pagesOf(name string) (int, api.Errno) {
	p, e := l.parted(name)
	if e != api.OK {
		return 0, e
	}
	pages := p.pages
	for m, e := range p.meetings() {
		if e != api.OK {
			return 0, e
		}
		// A chain belongs to one cell, which is the same one as long as its pages are: so here the two chains have no page in common.
		pages += l.from.chainPages(m.old) + l.to.chainPages(m.new)
	}
	return pages, api.OK
}

// chainPages is how many pages the chain of a cell has. One without a chain, and a zero cell, have the Count 0: no page.
func (l look) chainPages(c api.Cell) int { return spill.Pages(l.room.Size(), c.Count) }
