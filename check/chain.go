package check

import (
	"espalier/api"
	"espalier/spill"
)

// frame is how many bytes of a page of a chain are none of the value's.
const frame = 16

// chain goes through a value's chain, up to its first fault.
func (s *survey) chain(c api.Cell, by place) {
	at, left := c.Page, c.Count
	for pages := spill.Pages(s.size, c.Count); pages > 0; pages-- {
		if !s.enter(at, inUse, by) {
			return
		}
		p := s.pages[at]
		if p.kind != api.PageSpill {
			s.unlike(at)
			return
		}
		isLast := pages == 1
		if len(p.data) != min(left, s.size-frame) || isLast != (p.next == 0) {
			s.say(api.BadChain, by)
			return
		}
		at, left = p.next, left-len(p.data)
	}
}

// cells are those of a tree's leaves, in order, where nothing is wrong; none of the tree 0, which is empty.
func (s *survey) cells(root int) []api.Cell {
	p := s.pages[root]
	if p.kind != api.PageBranch {
		return p.cells
	}
	var l []api.Cell
	for _, c := range p.cells {
		l = append(l, s.cells(c.Page)...)
	}
	return l
}

// pairs are a tree's, where nothing is wrong.
func (s *survey) pairs(root int) []api.Pair {
	var l []api.Pair
	for _, c := range s.cells(root) {
		l = append(l, api.Pair{Key: c.Key, Value: s.value(c)})
	}
	return l
}

func (s *survey) value(c api.Cell) []byte {
	if c.Kind == api.CellValue {
		return c.Value
	}
	var value []byte
	for at := c.Page; at != 0; at = s.pages[at].next {
		value = append(value, s.pages[at].data...)
	}
	return value
}
