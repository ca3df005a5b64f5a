package tree

import (
	"espalier/api"
	"espalier/node"
)

const (
	mostPages = 40 // of a way
	engineAt  = 1  // where a page has its engine
)

// step is a page of a way, and the place of the cell by which the way goes on; in a leaf, at which it ends.
type step struct {
	page int
	node node.Node
	at   int
}

// way is the pages from the root down to a leaf; none, of the empty tree.
type way []step

// wayFor is the way for a key. In the leaf it ends at the first cell that does not stand ahead of the key.
func wayFor(r api.Room, root int, key []byte) way {
	return down(r, root, func(n node.Node) int {
		at, is := n.Find(key)
		if n.Kind() == api.PageBranch && !is && at > 0 {
			return at - 1
		}
		return at
	})
}

// wayTo is the way to the cell that has i cells ahead of it. Where the Counts say that there is none it ends in a branch, behind its last cell.
func wayTo(r api.Room, root, i int) way {
	return down(r, root, func(n node.Node) int {
		if n.Kind() == api.PageLeaf {
			return i
		}
		at := 0
		for ; at < n.Len(); at++ {
			count := cellAt(n, at).Count
			if count > i {
				break
			}
			i -= count
		}
		return at
	})
}

// down goes from the root down, in each page by the cell whose place turn tells.
func down(r api.Room, root int, turn func(n node.Node) int) way {
	var w way
	for page := root; page != 0; {
		if len(w) == mostPages {
			must(api.ErrTree)
		}
		n := read(r, page)
		at := turn(n)
		w = append(w, step{page: page, node: n, at: at})
		page = child(n, at)
	}
	return w
}

// child is the page to which a branch's cell leads; 0, if there is no such cell, and of a leaf.
func child(n node.Node, at int) int {
	if n.Kind() == api.PageLeaf {
		return 0
	}
	return cellAt(n, at).Page
}

// cellAt is a zero cell, if there is none.
func cellAt(n node.Node, at int) api.Cell {
	c, _ := n.Cell(at)
	return c
}

// read reads a page of a tree.
func read(r api.Room, page int) node.Node {
	b, e := r.Read(page)
	must(e)
	n, e := node.Open(b)
	if e != api.OK || len(b) != r.Size() || int(b[engineAt]) != r.Engine() || n.Kind() == api.PageBranch && n.Len() == 0 {
		must(api.ErrTree)
	}
	return n
}
