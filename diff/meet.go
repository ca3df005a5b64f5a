package diff

import (
	"bytes"
	"cmp"
	"iter"

	"espalier/api"
	"espalier/node"
	"espalier/walk"
)

// rest is the cells of some leaves, in order, that were not taken yet.
type rest struct {
	room  api.Room
	pages []int      // leaves that were not read yet
	cells []api.Cell // what is left of the leaf that was read last
}

// fill reads on until there is a cell, or no leaf is left.
func (r *rest) fill() api.Errno {
	for len(r.cells) == 0 && len(r.pages) > 0 {
		n, e := walk.Read(r.room, r.pages[0])
		if e != api.OK {
			return e
		}
		if n.Kind() != api.PageLeaf {
			return api.ErrTree
		}
		r.pages, r.cells = r.pages[1:], node.Cells(n)
	}
	return api.OK
}

func (r *rest) isOver() bool { return len(r.cells) == 0 }

func (r *rest) take() api.Cell {
	c := r.cells[0]
	r.cells = r.cells[1:]
	return c
}

// order tells whose next key is the lesser one: below 0 that of r, above 0 that of s; 0, if they are alike. (One that is over comes last.)
func (r *rest) order(s *rest) int {
	switch {
	case s.isOver():
		return -1
	case r.isOver():
		return 1
	}
	return bytes.Compare(r.cells[0].Key, s.cells[0].Key)
}

// meeting is the cells of one key: the one that was there, the one that is there.
type meeting struct {
	old, new api.Cell
	was, is  bool
}

// meet takes the cells of the least key that is left.
func meet(from, to *rest) meeting {
	var m meeting
	order := from.order(to)
	if order <= 0 {
		m.old, m.was = from.take(), true
	}
	if order >= 0 {
		m.new, m.is = to.take(), true
	}
	return m
}

// isSame tells whether one cell was there and is there. (Cells may be unlike whose values are alike.)
func (m meeting) isSame() bool {
	a, b := m.old, m.new
	return m.was && m.is && a.Kind == b.Kind && a.Page == b.Page && a.Count == b.Count && bytes.Equal(a.Value, b.Value)
}

// meetings tells, by rising keys, where the cells of the two trees are not the same.
func (p parting) meetings() iter.Seq2[meeting, api.Errno] {
	return func(yield func(meeting, api.Errno) bool) {
		from, to := p.from, p.to
		for {
			if e := cmp.Or(from.fill(), to.fill()); e != api.OK {
				yield(meeting{}, e)
				return
			}
			if from.isOver() && to.isOver() {
				return
			}
			if m := meet(&from, &to); !m.isSame() && !yield(m, api.OK) {
				return
			}
		}
	}
}
