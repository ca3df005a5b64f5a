package grove

import (
	"bytes"
	"iter"
	"slices"

	"espalier/api"
	"espalier/bulk"
	"espalier/node"
	"espalier/spill"
)

const (
	loadFill = 224              // in 256ths: how full pages are that a Load lays
	anyPage  = api.MaxPages - 1 // where a chain counts as beginning, whichever page it will be
)

// load is rising pairs that are to be laid: their cells, and beside these the values that lie in chains, in order.
type load struct {
	cells []api.Cell
	long  [][]byte
}

// gathered is what pairs tells, up to the first one that is refused.
func (t *named) gathered(pairs iter.Seq[api.Pair]) (load, api.Errno) {
	var l load
	if pairs == nil {
		return l, api.OK
	}
	fault := api.OK
	// Called, not ranged over: so one that goes on though it is told to end does no harm.
	pairs(func(p api.Pair) bool {
		if fault == api.OK {
			fault = t.gather(&l, p)
		}
		return fault == api.OK
	})
	if fault != api.OK {
		return load{}, fault
	}
	return l, api.OK
}

// gather takes one pair more. It is copied, for what tells pairs may lay each one where the one ahead of it lay.
func (t *named) gather(l *load, p api.Pair) api.Errno {
	if !t.isKey(p.Key) || !isValue(p.Value) {
		return api.ErrSize
	}
	if n := len(l.cells); n > 0 && !goesOn(l.cells[n-1].Key, p.Key, false) {
		return api.ErrSorted
	}
	value := bytes.Clone(p.Value)
	l.cells = append(l.cells, t.cell(bytes.Clone(p.Key), value, anyPage))
	if t.isLong(value) {
		l.long = append(l.long, value)
	}
	return api.OK
}

// need is how many pages the tree of these pairs and their chains have.
func (l load) need(r api.Room) (int, api.Errno) {
	need, e := bulk.Need(r.Engine(), r.Size(), loadFill, l.cells)
	if e != api.OK {
		return 0, e
	}
	for _, value := range l.long {
		need += spill.Pages(r.Size(), len(value))
	}
	return need, api.OK
}

// plant lays pairs into pages of their own: these are the tree then.
func (t *named) plant(l load) api.Errno {
	into := &bed{Room: t.room}
	for _, value := range l.long {
		first, e := spill.Write(t.room, value)
		if e != api.OK {
			return e
		}
		into.firsts = append(into.firsts, first)
	}
	root, count, e := bulk.Build(into, slices.Values(l.cells), loadFill)
	if e != api.OK {
		return e
	}
	t.root, t.count = root, count
	return api.OK
}

// bed is a room in which a tree is built before its cells say where their chains begin. So it takes just the pages that were asked for: were these numbers, which may be shorter, in the cells, pages would be cut elsewhere, and longer keys might come to lead to them.
type bed struct {
	api.Room
	firsts []int // where the chains begin to which no leaf leads yet, in order
}

// Write writes a page of the tree, its cells with the pages at which their chains begin. The leaves come first, in order.
func (b *bed) Write(page int, data []byte) api.Errno {
	if len(b.firsts) == 0 {
		return b.Room.Write(page, data)
	}
	engine, kind, cells, e := node.Decode(data)
	if e != api.OK {
		return e
	}
	for i, c := range cells {
		if c.Kind == api.CellSpill {
			cells[i].Page, b.firsts = b.firsts[0], b.firsts[1:]
		}
	}
	led, e := node.Encode(engine, kind, cells, len(data))
	if e != api.OK {
		return e
	}
	return b.Room.Write(page, led)
}
