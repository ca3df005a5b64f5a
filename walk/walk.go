// Package walk says how the pages of trees are read, and which way keys go, for all who go through trees: see shared/doc/12-tree.md, section Words.
package walk

import (
	"espalier/api"
	"espalier/node"
)

// MostPages is how many pages a way may have.
const MostPages = 40

const engineAt = 1 // where a page has its engine

// Read reads a page of a tree.
func Read(r api.Room, page int) (node.Node, api.Errno) {
	b, e := r.Read(page)
	if e != api.OK {
		return nil, e
	}
	n, e := node.Open(b)
	if e != api.OK || len(b) != r.Size() || int(b[engineAt]) != r.Engine() || n.Kind() == api.PageBranch && n.Len() == 0 {
		return nil, api.ErrTree
	}
	return n, api.OK
}

// Toward is the place of the cell by which the way for a key goes on; in a leaf, of the first cell that does not stand ahead of the key, or the one behind the last.
func Toward(n node.Node, key []byte) int {
	at, is := n.Find(key)
	if n.Kind() == api.PageBranch && !is && at > 0 {
		return at - 1
	}
	return at
}

// Child is the page to which a branch's cell leads; 0, if there is no such cell, and of a leaf.
func Child(n node.Node, at int) int {
	if n.Kind() == api.PageLeaf {
		return 0
	}
	// A zero cell leads to 0.
	c, _ := n.Cell(at)
	return c.Page
}
