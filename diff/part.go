package diff

import (
	"slices"

	"espalier/api"
	"espalier/tree"
	"espalier/walk"
)

// leafLevel is that of the leaves; those of the branches are counted up from there. So a page that two trees have stands at one level in both, however high they are.
const leafLevel = 1

// parting is what two trees do not have in common: the leaves that the one has alone, those that the other one has alone, and how many pages, with the branches, that are.
type parting struct {
	from, to rest
	pages    int
}

// part goes down two trees, level by level, but into no page that they have in common: what stands below that they have in common, too.
func (l looks) part(fromRoot, toRoot int) (parting, api.Errno) {
	if fromRoot == toRoot {
		return parting{}, api.OK
	}
	from, e := frontAt(l.from.room, fromRoot)
	if e != api.OK {
		return parting{}, e
	}
	to, e := frontAt(l.to.room, toRoot)
	if e != api.OK {
		return parting{}, e
	}
	pages := 0
	for level := max(from.top, to.top); level >= leafLevel; level-- {
		alone, other := without(from.at(level), to.at(level)), without(to.at(level), from.at(level))
		pages += len(alone) + len(other)
		if e := from.keep(level, alone); e != api.OK {
			return parting{}, e
		}
		if e := to.keep(level, other); e != api.OK {
			return parting{}, e
		}
	}
	return parting{from: from.leaves(), to: to.leaves(), pages: pages}, api.OK
}

// without is the pages of the one list that the other one does not have, in order.
func without(pages, others []int) []int {
	have := map[int]struct{}{}
	for _, page := range others {
		have[page] = struct{}{}
	}
	return slices.DeleteFunc(slices.Clone(pages), func(page int) bool {
		_, is := have[page]
		return is
	})
}

// front is how far down a tree was gone into: those pages of one level below which it may be gone into further, in order.
type front struct {
	room    api.Room
	top     int // the root's level; 0, of the empty tree
	pages   []int
	reached map[int]struct{}
}

// frontAt stands at the root.
func frontAt(r api.Room, root int) (*front, api.Errno) {
	if root == 0 {
		return &front{room: r}, api.OK
	}
	top, e := tree.Height(r, root)
	if e != api.OK {
		return nil, e
	}
	return &front{room: r, top: top, pages: []int{root}, reached: map[int]struct{}{root: {}}}, api.OK
}

// at is the pages of the level at which all fronts stand now; this one may wait above for the root's.
func (f *front) at(level int) []int {
	if level > f.top {
		return nil
	}
	return f.pages
}

// keep drops all pages of that level but these, and goes on to the level below.
func (f *front) keep(level int, pages []int) api.Errno {
	if level > f.top {
		return api.OK
	}
	f.pages = pages
	if level == leafLevel {
		return api.OK
	}
	f.pages = nil
	for _, page := range pages {
		if e := f.enter(page); e != api.OK {
			return e
		}
	}
	return api.OK
}

// enter puts a branch's children behind the front's pages.
func (f *front) enter(page int) api.Errno {
	n, e := walk.Read(f.room, page)
	if e != api.OK {
		return e
	}
	if n.Kind() != api.PageBranch {
		return api.ErrTree
	}
	for at := range n.Len() {
		child := walk.Child(n, at)
		// What is no good tree may lead to the same page over and over.
		if _, again := f.reached[child]; again {
			return api.ErrTree
		}
		f.reached[child] = struct{}{}
		f.pages = append(f.pages, child)
	}
	return api.OK
}

// leaves is the front's pages, once it has come down to the leaves.
func (f *front) leaves() rest { return rest{room: f.room, pages: f.pages} }
