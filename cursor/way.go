package cursor

import (
	"espalier/api"
	"espalier/node"
	"espalier/walk"
)

// step is a page of a way, and the place of the cell by which the way goes on; in a leaf, at which it ends.
type step struct {
	node node.Node
	at   int
}

// isThere tells whether there is a cell at that place.
func (s *step) isThere() bool { return s.at >= 0 && s.at < s.node.Len() }

// descent goes on from a page down to a leaf; the page 0 is none.
type descent func(page int) api.Errno

func (c *Cursor) downFirst(page int) api.Errno {
	return c.down(page, func(node.Node) int { return 0 })
}

func (c *Cursor) downLast(page int) api.Errno {
	return c.down(page, func(n node.Node) int { return n.Len() - 1 })
}

// down makes the way longer, from a page on, in each page by the cell whose place turn tells.
func (c *Cursor) down(page int, turn func(n node.Node) int) api.Errno {
	for page != 0 {
		if c.deep == len(c.way) {
			return api.ErrTree
		}
		n, e := read(c.room, page)
		if e != api.OK {
			return e
		}
		at := turn(n)
		c.way[c.deep] = step{node: n, at: at}
		c.deep++
		page = walk.Child(n, at)
	}
	return api.OK
}

// read reads a page that must have a cell to stand at.
func read(r api.Room, page int) (node.Node, api.Errno) {
	n, e := walk.Read(r, page)
	if e != api.OK {
		return nil, e
	}
	if n.Len() == 0 {
		return nil, api.ErrTree
	}
	return n, api.OK
}

// anew goes from the root.
func (c *Cursor) anew(down descent) bool {
	c.leave()
	return c.stand(down(c.root))
}

// beside goes to the place behind, by 1, or ahead, by -1.
func (c *Cursor) beside(by int, down descent) bool {
	if !c.stands() {
		return false
	}
	for ; c.stands(); c.up() {
		s := c.end()
		s.at += by
		if s.isThere() {
			return c.stand(down(walk.Child(s.node, s.at)))
		}
	}
	return c.stand(api.OK)
}

// stand ends a move, which has met that error: whether the cursor stands at a cell then.
func (c *Cursor) stand(e api.Errno) bool {
	c.err = e
	if e != api.OK {
		c.leave()
	}
	return c.stands()
}

func (c *Cursor) stands() bool { return c.deep > 0 }

// end is the last page of the way.
func (c *Cursor) end() *step { return &c.way[c.deep-1] }

// up makes the way shorter by its last page, which is not kept.
func (c *Cursor) up() {
	*c.end() = step{}
	c.deep--
}

func (c *Cursor) leave() {
	for c.stands() {
		c.up()
	}
}
