package tree

import (
	"espalier/api"
	"espalier/node"
	"espalier/walk"
)

// step is a page of a way, and the place of the cell by which the way goes on; in a leaf, at which it ends.
type step struct {
	page int
	node node.Node
	at   int
}

// way is the pages from the root down to a leaf; none, of the empty tree.
type way []step

// wayFor is the way for a key. In the leaf it ends at the first cell that does not stand ahead of the key.
func wayFor(r api.Room, root int, key []byte) way {
	return down(r, root, func(n node.Node) int { return walk.Toward(n, key) })
}

// wayTo is the way to the cell that has i cells ahead of it. Where the Counts say that there is none it ends in a branch, behind its last cell.
func wayTo(r api.Room, root, i int) way {
	return down(r, root, func(n node.Node) int {
		if n.Kind() == api.PageLeaf {
			return i
		}
		at := 0
		for ; at < n.Len(); at++ {
			count := cellAt(n, at).Count
			if count > i {
				break
			}
			i -= count
		}
		return at
	})
}

// down goes from the root down, in each page by the cell whose place turn tells.
func down(r api.Room, root int, turn func(n node.Node) int) way {
	var w way
	for page := root; page != 0; {
		if len(w) == walk.MostPages {
			must(api.ErrTree)
		}
		n := read(r, page)
		at := turn(n)
		w = append(w, step{page: page, node: n, at: at})
		page = walk.Child(n, at)
	}
	return w
}

// cellAt is a zero cell, if there is none.
func cellAt(n node.Node, at int) api.Cell {
	c, _ := n.Cell(at)
	return c
}

// read reads a page of a tree.
func read(r api.Room, page int) node.Node {
	n, e := walk.Read(r, page)
	must(e)
	return n
}
