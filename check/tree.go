package check

import (
	"bytes"

	"espalier/api"
	"espalier/cell"
)

// tree is a tree that is walked.
type tree struct {
	*survey
	isCatalog bool
	leafDepth int // that of the leaf that was met first; 0: none was
}

// step is where the walk of a tree goes on.
type step struct {
	page, count int   // what is named: a page, and how many entries are said to be there
	by          place // what names it
	lo, hi      []byte
	depth       int
}

// rootDepth is above 0, at which no page stands.
const rootDepth = 1

func (s *survey) catalog() {
	s.walked(true, named{s.meta.Root, s.meta.Count, place{s.metaAt, 0}})
}

// trees walks those that the catalog has told.
func (s *survey) trees() {
	for _, n := range s.named {
		s.walked(false, n)
	}
}

func (s *survey) walked(isCatalog bool, n named) {
	if n.root == 0 {
		return
	}
	t := &tree{survey: s, isCatalog: isCatalog}
	t.follow(step{page: n.root, count: n.count, by: n.by, depth: rootDepth})
}

// follow walks the page that is named, and tells how many entries it has: those that are said to be there, where it is no node.
func (t *tree) follow(at step) int {
	if !t.enter(at.page, inUse, at.by) {
		return at.count
	}
	if p := t.pages[at.page]; !p.isNode() || p.engine != t.meta.Engine {
		t.noNode(at.page)
		return at.count
	}
	entries := t.node(at)
	if entries != at.count {
		t.say(api.BadCount, at.by)
	}
	return entries
}

// noNode is said of a page that is no node. A node of the other engine is no page of another sort.
func (t *tree) noNode(page int) {
	if t.pages[page].isNode() {
		t.say(api.BadPage, place{page, 0})
		return
	}
	t.unlike(page)
}

func (t *tree) node(at step) int {
	p := t.pages[at.page]
	isLeaf := p.kind == api.PageLeaf
	mayBeOne := isLeaf && at.depth == rootDepth
	if n := len(p.cells); n == 0 || n == 1 && !mayBeOne {
		t.say(api.BadThin, place{at.page, 0})
	}
	if !isLeaf {
		return t.branch(at)
	}
	t.leaf(at)
	return len(p.cells)
}

// branch walks what stands below, and tells how many entries that has.
func (t *tree) branch(at step) int {
	entries := 0
	cells := t.pages[at.page].cells
	for i, c := range cells {
		here, lo, hi := place{at.page, i}, at.lo, at.hi
		if !isBound(i, c.Key, at) {
			t.say(api.BadOrder, here)
		}
		if i > 0 {
			lo = c.Key
		}
		if i+1 < len(cells) {
			hi = cells[i+1].Key
		}
		entries += t.follow(step{c.Page, c.Count, here, lo, hi, at.depth + 1})
	}
	return entries
}

// isBound tells whether a branch may have that key at that cell.
func isBound(i int, key []byte, at step) bool {
	if i == 0 {
		return len(key) == 0
	}
	return bytes.Compare(key, at.lo) > 0 && isBelow(key, at.hi)
}

// isBelow: no bound is empty, but where there is none; for only a branch's first key can be.
func isBelow(key, hi []byte) bool { return len(hi) == 0 || bytes.Compare(key, hi) < 0 }

func (t *tree) leaf(at step) {
	if t.leafDepth == 0 {
		t.leafDepth = at.depth
	}
	if at.depth != t.leafDepth {
		t.say(api.BadDepth, place{at.page, 0})
	}
	for i, c := range t.pages[at.page].cells {
		here := place{at.page, i}
		if bytes.Compare(c.Key, at.lo) < 0 || !isBelow(c.Key, at.hi) {
			t.say(api.BadOrder, here)
		}
		t.entry(c, here)
	}
}

// entry looks at a leaf's cell: of the catalog the trees come later, of a tree the chains at once.
func (t *tree) entry(c api.Cell, here place) {
	switch {
	case t.isCatalog && c.Kind == api.CellTree && cell.IsName(string(c.Key)):
		t.survey.named = append(t.survey.named, named{c.Page, c.Count, here})
	case !t.isCatalog && c.Kind == api.CellSpill:
		t.chain(c, here)
	case t.isCatalog || c.Kind != api.CellValue:
		t.say(api.BadCell, here)
	}
}
