package plain_test

import (
	"math/rand"
	"slices"
	"strconv"
	"testing"

	"espalier/api"
	"espalier/plain"
)

// list is a page told as plainly as can be: its cells.
type list struct {
	kind, page int
	cells      []api.Cell
}

// try takes other cells, if they may be those of a page; what is wrong with them is told in the order of P6.6, where one cell alone is new.
func (l *list) try(cells []api.Cell) api.Errno {
	e := wanted(l.kind, cells, l.page)
	if e == api.OK {
		l.cells = cells
	}
	return e
}

func (l *list) insert(i int, c api.Cell) api.Errno {
	if i < 0 || i > len(l.cells) {
		return api.ErrSlot
	}
	if !mayBe(l.kind, l.page, c) {
		return api.ErrCell
	}
	return l.try(slices.Insert(slices.Clone(l.cells), i, c))
}

func (l *list) set(i int, c api.Cell) api.Errno {
	if i < 0 || i >= len(l.cells) {
		return api.ErrSlot
	}
	if !mayBe(l.kind, l.page, c) {
		return api.ErrCell
	}
	cells := slices.Clone(l.cells)
	cells[i] = c
	return l.try(cells)
}

func (l *list) remove(i int) api.Errno {
	if i < 0 || i >= len(l.cells) {
		return api.ErrSlot
	}
	l.cells = slices.Delete(slices.Clone(l.cells), i, i+1)
	return api.OK
}

func (l *list) find(key []byte) (int, bool) {
	n := 0
	for _, c := range l.cells {
		if ahead(c.Key, key) {
			n++
		}
	}
	return n, n < len(l.cells) && string(l.cells[n].Key) == string(key)
}

// anyKey is mostly a short one, so that keys meet.
func anyKey(r *rand.Rand, most int) []byte {
	n := 1 + r.Intn(3)
	if r.Intn(8) == 0 {
		n = 1 + r.Intn(most)
	}
	b := make([]byte, n)
	for i := range b {
		b[i] = "\x00\x01abc\xfe\xff"[r.Intn(7)]
	}
	return b
}

// anyCell may be in such a page.
func anyCell(r *rand.Rand, kind, page int) api.Cell {
	c := api.Cell{Key: anyKey(r, page/8), Page: 2 + r.Intn(65534), Count: 1 + r.Intn(1<<30)}
	if kind == api.PageBranch {
		c.Kind = api.CellChild
		if r.Intn(20) == 0 {
			c.Key = nil
		}
		return c
	}
	switch r.Intn(6) {
	case 0:
		c.Kind, c.Count = api.CellSpill, page/16*3+1+r.Intn(65536-page/16*3)
	case 1:
		c.Kind = api.CellTree
	case 2:
		c.Kind, c.Page, c.Count = api.CellTree, 0, 0
	default:
		n := r.Intn(12)
		if r.Intn(8) == 0 {
			n = r.Intn(page/16*3 + 1)
		}
		c.Kind, c.Page, c.Count, c.Value = api.CellValue, 0, 0, []byte(long(n))
	}
	return c
}

// spoilt is a cell that mostly may not be.
func spoilt(r *rand.Rand, kind, page int) api.Cell {
	c := anyCell(r, kind, page)
	switch r.Intn(6) {
	case 0:
		c.Key = nil
	case 1:
		c.Key = []byte(long(page/8 + 1))
	case 2:
		c.Value = []byte(long(page/16*3 + 1))
	case 3:
		c.Page = r.Intn(3)
	case 4:
		c.Count = r.Intn(2) * (1<<30 + 1)
	default:
		c.Kind = r.Intn(7)
	}
	return c
}

// P6.4 to P6.7: whatever is done, a page has the cells that a list would have.
func TestLongRuns(t *testing.T) {
	for _, run := range []struct{ page, steps int }{{512, 6000}, {1024, 3000}, {4096, 1500}, {65536, 200}} {
		for _, kind := range kinds() {
			r := chance()
			p, l := made(t, kind, run.page), &list{kind: kind, page: run.page}
			if run.page == 65536 {
				l.cells = many(kind, run.page)[:3000]
				p = filled(t, kind, run.page, l.cells...)
			}
			for step := range run.steps {
				what := strconv.Itoa(run.page) + ", kind " + strconv.Itoa(kind) + ", step " + strconv.Itoa(step) + ": "
				// Times of growing and of shrinking, so that both a full page and an empty one come.
				p = oneStep(t, what, r, p, l, step/300%3 == 2)
				if t.Failed() {
					return
				}
			}
		}
	}
}

// oneStep does one thing to both, and holds them against each other.
func oneStep(t *testing.T, what string, r *rand.Rand, p *plain.Page, l *list, shrink bool) *plain.Page {
	t.Helper()
	c := anyCell(r, l.kind, l.page)
	if r.Intn(8) == 0 {
		c = spoilt(r, l.kind, l.page)
	}
	at, _ := l.find(c.Key)
	if r.Intn(6) == 0 {
		at = r.Intn(len(l.cells)+4) - 2
	}
	do := r.Intn(10)
	if shrink {
		do = 4 + r.Intn(6)
	}
	switch {
	case do < 6:
		same(t, what+"Insert", p.Insert(at, c), l.insert(at, c))
	case do < 8:
		if has, _ := l.find(c.Key); r.Intn(2) == 0 && has < len(l.cells) {
			c.Key, at = l.cells[has].Key, has
		}
		same(t, what+"Set", p.Set(at, c), l.set(at, c))
	default:
		same(t, what+"Remove", p.Remove(at), l.remove(at))
	}
	i, is := p.Find(c.Key)
	j, there := l.find(c.Key)
	same(t, what+"Find's place", i, j)
	same(t, what+"Find", is, there)
	stands(t, what, p, l.kind, l.cells, l.page)
	if p.Used() > l.page {
		t.Errorf("%sUsed is %d", what, p.Used())
	}
	if r.Intn(16) > 0 {
		return p
	}
	again, e := plain.Open(p.Bytes())
	same(t, what+"Open of Bytes", e, api.OK)
	stands(t, what+"Open of Bytes", again, l.kind, l.cells, l.page)
	return again
}
