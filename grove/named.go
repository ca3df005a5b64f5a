package grove

import (
	"bytes"

	"espalier/api"
	"espalier/node"
	"espalier/spill"
	"espalier/tree"
)

// named is a tree of keys and values that the catalog tells.
type named struct {
	trunk
	name string
}

func (t *named) isKey(key []byte) bool {
	return len(key) > 0 && len(key) <= node.MostKey(t.room.Size())
}

func isValue(value []byte) bool { return len(value) <= api.MaxValue }

// isLong tells whether a value lies in a chain.
func (t *named) isLong(value []byte) bool { return len(value) > node.MostValue(t.room.Size()) }

// chainPages is how many pages the value's chain has; none, if it lies in its cell.
func (t *named) chainPages(value []byte) int {
	if !t.isLong(value) {
		return 0
	}
	return spill.Pages(t.room.Size(), len(value))
}

// cell is the cell of a key and its value; first is the page at which its chain begins, if it has one.
func (t *named) cell(key, value []byte, first int) api.Cell {
	if t.isLong(value) {
		return api.Cell{Key: key, Kind: api.CellSpill, Page: first, Count: len(value)}
	}
	return api.Cell{Key: key, Kind: api.CellValue, Value: value}
}

func (t *named) put(key, value []byte) api.Errno {
	first := 0
	if t.isLong(value) {
		page, e := spill.Write(t.room, value)
		if e != api.OK {
			return e
		}
		first = page
	}
	return t.lay(t.cell(key, value, first))
}

// value is the value of a cell, wherever it lies.
func (t *named) value(c api.Cell) ([]byte, api.Errno) {
	switch c.Kind {
	case api.CellValue:
		return c.Value, api.OK
	case api.CellSpill:
		return spill.Read(t.room, c.Page, c.Count)
	}
	return nil, api.ErrTree
}

// pairOf is the pair of a cell that was looked for.
func (t *named) pairOf(c api.Cell, is bool, e api.Errno) (api.Pair, bool, api.Errno) {
	if e != api.OK || !is {
		return api.Pair{}, false, e
	}
	value, e := t.value(c)
	if e != api.OK {
		return api.Pair{}, false, e
	}
	return api.Pair{Key: c.Key, Value: value}, true, api.OK
}

// tell goes through the pairs from lo on, ahead of hi, or the other way round, and answers the error by which that ends.
func (t *named) tell(lo, hi []byte, reverse bool, yield func(api.Pair, api.Errno) bool) api.Errno {
	var last []byte
	for c, e := range t.cells(lo, hi, reverse) {
		if e != api.OK {
			return e
		}
		// What is no good tree may lead to the same page over and over: then its keys do not go on.
		if len(last) > 0 && !goesOn(last, c.Key, reverse) {
			return api.ErrTree
		}
		value, e := t.value(c)
		if e != api.OK {
			return e
		}
		last = append(last[:0], c.Key...)
		if !yield(api.Pair{Key: c.Key, Value: value}, api.OK) {
			return api.OK
		}
	}
	return api.OK
}

// goesOn tells whether a key may come behind the last one.
func goesOn(last, key []byte, reverse bool) bool {
	if reverse {
		return bytes.Compare(key, last) < 0
	}
	return bytes.Compare(last, key) < 0
}

// chain is the pages of the chain in which a cell's value lies; none, if it lies in none.
func (t *named) chain(c api.Cell) ([]int, api.Errno) {
	if c.Kind != api.CellSpill {
		return nil, api.OK
	}
	return spill.List(t.room, c.Page, c.Count)
}

// chainAt is the chain of the value at a key, and whether there is one.
func (t *named) chainAt(key []byte) ([]int, bool, api.Errno) {
	c, is, e := t.find(key)
	if e != api.OK || !is {
		return nil, false, e
	}
	pages, e := t.chain(c)
	return pages, e == api.OK, e
}

// pages is all pages of the tree and of its values' chains.
func (t *named) pages() ([]int, api.Errno) {
	all, e := tree.Pages(t.room, t.root)
	if e != api.OK {
		return nil, e
	}
	for c, e := range t.cells(nil, nil, false) {
		if e != api.OK {
			return nil, e
		}
		chain, e := t.chain(c)
		if e != api.OK {
			return nil, e
		}
		all = append(all, chain...)
	}
	return all, api.OK
}
