package node_test

import (
	"math/rand"
	"slices"
	"testing"

	"espalier/api"
	"espalier/node"
	"espalier/packed"
	"espalier/plain"
)

// list is a node told as plainly as can be: its cells.
type list struct {
	engine, kind, page int
	cells              []api.Cell
}

// try takes other cells, if they rise and fit.
func (l *list) try(cells []api.Cell) api.Errno {
	e := wanted(l.engine, l.kind, cells, l.page)
	if e == api.OK {
		l.cells = cells
	}
	return e
}

func (l *list) insert(i int, c api.Cell) api.Errno {
	if i < 0 || i > len(l.cells) {
		return api.ErrSlot
	}
	if !mayBe(l.kind, l.page, c) {
		return api.ErrCell
	}
	return l.try(slices.Insert(slices.Clone(l.cells), i, c))
}

func (l *list) set(i int, c api.Cell) api.Errno {
	if i < 0 || i >= len(l.cells) {
		return api.ErrSlot
	}
	if !mayBe(l.kind, l.page, c) {
		return api.ErrCell
	}
	cells := slices.Clone(l.cells)
	cells[i] = c
	return l.try(cells)
}

func (l *list) remove(i int) api.Errno {
	if i < 0 || i >= len(l.cells) {
		return api.ErrSlot
	}
	// Only a packed branch that loses its first cell may have no room for what is left.
	return l.try(slices.Delete(slices.Clone(l.cells), i, i+1))
}

func (l *list) find(key []byte) (int, bool) {
	n := 0
	for _, c := range l.cells {
		if ahead(c.Key, key) {
			n++
		}
	}
	return n, n < len(l.cells) && string(l.cells[n].Key) == string(key)
}

// anyKey begins with the stem, mostly, and is mostly short behind it, so that keys meet.
func anyKey(r *rand.Rand, most int, stem string) []byte {
	n := r.Intn(3)
	if r.Intn(8) == 0 {
		n = r.Intn(most)
	}
	switch r.Intn(24) {
	case 0:
		stem = stem[:r.Intn(len(stem)+1)]
	case 1:
		stem = ""
	}
	b := []byte(stem)
	for range 1 + n {
		b = append(b, "\x00\x01abc\xfe\xff"[r.Intn(7)])
	}
	return b[:min(len(b), most)]
}

// anyCell may be in such a page.
func anyCell(r *rand.Rand, kind, page int, stem string) api.Cell {
	c := api.Cell{Key: anyKey(r, page/8, stem), Page: 2 + r.Intn(65534), Count: 1 + r.Intn(1<<30)}
	if r.Intn(2) == 0 {
		c.Page, c.Count = 2+r.Intn(300), 1+r.Intn(300)
	}
	if kind == api.PageBranch {
		c.Kind = api.CellChild
		if r.Intn(10) == 0 {
			c.Key = nil
		}
		return c
	}
	switch r.Intn(6) {
	case 0:
		c.Kind, c.Count = api.CellSpill, page/16*3+1+r.Intn(65536-page/16*3)
	case 1:
		c.Kind = api.CellTree
	case 2:
		c.Kind, c.Page, c.Count = api.CellTree, 0, 0
	default:
		n := r.Intn(12)
		if r.Intn(8) == 0 {
			n = r.Intn(page/16*3 + 1)
		}
		c.Kind, c.Page, c.Count, c.Value = api.CellValue, 0, 0, []byte(long(n))
	}
	return c
}

// spoilt is a cell that mostly may not be.
func spoilt(r *rand.Rand, kind, page int) api.Cell {
	c := anyCell(r, kind, page, "")
	switch r.Intn(6) {
	case 0:
		c.Key = nil
	case 1:
		c.Key = []byte(long(page/8 + 1))
	case 2:
		c.Value = []byte(long(page/16*3 + 1))
	case 3:
		c.Page = r.Intn(3)
	case 4:
		c.Count = r.Intn(2) * (1<<30 + 1)
	default:
		c.Kind = r.Intn(7)
	}
	return c
}

// pages is a node with what should be the same: a list, the engine's own page.
type pages struct {
	n    node.Node
	l    *list
	twin node.Node
}

// own is the engine's own page of these bytes.
func own(t *testing.T, engine int, b []byte) node.Node {
	t.Helper()
	if engine == api.Plain {
		p, e := plain.Open(b)
		same(t, "plain.Open", e, api.OK)
		return p
	}
	p, e := packed.Open(b)
	same(t, "packed.Open", e, api.OK)
	return p
}

func pagesOf(t *testing.T, engine, kind, page int, cells []api.Cell) *pages {
	t.Helper()
	l := &list{engine: engine, kind: kind, page: page, cells: cells}
	return &pages{opened(t, engine, kind, page, cells...), l, own(t, engine, laid(engine, kind, cells, page))}
}

// deed is what is done to a page: Insert, Set or Remove, at a place, with a cell.
type deed struct {
	what, at int
	c        api.Cell
}

func (d deed) of(n node.Node) api.Errno {
	switch d.what {
	case 0:
		return n.Insert(d.at, d.c)
	case 1:
		return n.Set(d.at, d.c)
	}
	return n.Remove(d.at)
}

func (d deed) ofList(l *list) api.Errno {
	switch d.what {
	case 0:
		return l.insert(d.at, d.c)
	case 1:
		return l.set(d.at, d.c)
	}
	return l.remove(d.at)
}

// does does it to all three, and holds them against each other.
func (p *pages) does(t *testing.T, what string, d deed) api.Errno {
	t.Helper()
	e, want := d.of(p.n), d.ofList(p.l)
	same(t, what+": what came of it", e, want)
	same(t, what+": what came of the engine's own page", d.of(p.twin), want)
	p.holds(t, what, d.c.Key)
	return e
}

func (p *pages) holds(t *testing.T, what string, key []byte) {
	t.Helper()
	i, is := p.n.Find(key)
	j, there := p.l.find(key)
	same(t, what+": Find's place", i, j)
	same(t, what+": Find", is, there)
	stands(t, what, p.n, p.l.engine, p.l.kind, p.l.cells, p.l.page)
	same(t, what+": the engine's own Used", p.n.Used(), p.twin.Used())
}

// anyDeed is one that is mostly taken.
func anyDeed(r *rand.Rand, l *list, stem string, shrink bool) deed {
	d := deed{c: anyCell(r, l.kind, l.page, stem)}
	if r.Intn(8) == 0 {
		d.c = spoilt(r, l.kind, l.page)
	}
	d.at, _ = l.find(d.c.Key)
	switch do := r.Intn(10); {
	case do < 6 && !shrink:
	case do < 8:
		d.what = 1
		if r.Intn(2) == 0 && d.at < len(l.cells) {
			d.c.Key = l.cells[d.at].Key
		}
	default:
		d.what = 2
	}
	switch r.Intn(12) {
	case 0:
		d.at = 0
	case 1, 2:
		d.at = r.Intn(len(l.cells)+4) - 2
	}
	return d
}

// P8.7: whatever is done, a node has the cells that a list would have.
func TestLongRuns(t *testing.T) {
	for _, run := range []struct{ page, steps int }{{512, 6000}, {1024, 2000}, {4096, 600}, {65536, 40}} {
		for _, engine := range engines() {
			for _, kind := range kinds() {
				longRun(t, engine, kind, run.page, run.steps)
			}
		}
	}
}

func longRun(t *testing.T, engine, kind, page, steps int) {
	t.Helper()
	r, stem, refused := chance(), "", 0
	p := pagesOf(t, engine, kind, page, nil)
	if page == 65536 {
		p = pagesOf(t, engine, kind, page, rowOf(kind, 2500))
	}
	for step := range steps {
		if len(p.l.cells) == 0 || r.Intn(300) == 0 {
			stem = string(anyKey(r, page/8, long(r.Intn(page/8-1))))
		}
		what := named("run", engine, kind, page, step)
		// Times of growing and of shrinking, so that both a full page and an empty one come.
		if p.does(t, what, anyDeed(r, p.l, stem, step/200%3 == 2)) == api.ErrFit {
			refused++
		}
		if r.Intn(32) == 0 {
			again, e := node.Open(p.n.Bytes())
			same(t, what+": Open of Bytes", e, api.OK)
			p.n, p.twin = again, own(t, engine, p.n.Bytes())
			p.holds(t, what+": Open of Bytes", nil)
		}
		if t.Failed() {
			return
		}
	}
	if page == 512 && refused < 20 {
		t.Errorf("engine %d, kind %d: only %d did not fit", engine, kind, refused)
	}
}

// P8.7: what both engines take they tell alike; only Used and Bytes are unlike, and which cells are too many.
func TestBothEngines(t *testing.T) {
	for _, run := range []struct{ page, steps int }{{512, 4000}, {2048, 600}} {
		for _, kind := range kinds() {
			bothRun(t, kind, run.page, run.steps)
		}
	}
}

func bothRun(t *testing.T, kind, page, steps int) {
	t.Helper()
	r, unlike := chance(), 0
	a, b := pagesOf(t, api.Plain, kind, page, nil), pagesOf(t, api.Packed, kind, page, nil)
	stem := long(page / 16)
	for step := range steps {
		what := named("both", kind, page, step)
		d := anyDeed(r, a.l, stem, step/100%3 == 2)
		cells := a.l.cells
		e, f := a.does(t, what+", plain", d), b.does(t, what+", packed", d)
		if e != f {
			unlike++
			same(t, what+": what one takes alone does not fit for the other", e == api.ErrFit && f == api.OK || e == api.OK && f == api.ErrFit, true)
			a, b = pagesOf(t, api.Plain, kind, page, cells), pagesOf(t, api.Packed, kind, page, cells)
		}
		alike(t, what, a.n, b.n, d.c.Key)
		if t.Failed() {
			return
		}
	}
	if unlike < 5 {
		t.Errorf("kind %d, page %d: only %d did not fit for one alone", kind, page, unlike)
	}
}

// alike holds two nodes with the same cells against each other.
func alike(t *testing.T, what string, n, m node.Node, key []byte) {
	t.Helper()
	same(t, what+": Kind", n.Kind(), m.Kind())
	same(t, what+": Len", n.Len(), m.Len())
	sameCells(t, what+": Cells", node.Cells(n), node.Cells(m))
	i, is := n.Find(key)
	j, there := m.Find(key)
	same(t, what+": Find's place", i, j)
	same(t, what+": Find", is, there)
	for _, i := range []int{-1, 0, n.Len() / 2, n.Len() - 1, n.Len(), n.Len() + 1} {
		c, e := n.Cell(i)
		d, f := m.Cell(i)
		same(t, what+": Cell", e, f)
		sameCell(t, what+": Cell", c, d)
	}
}

// P8.1, P8.7: every method at every place, from far below 0 to far above Len; what was refused changes nothing.
func TestEveryPlace(t *testing.T) {
	for _, engine := range engines() {
		for _, kind := range kinds() {
			for n := range 6 {
				cells := stemmed(kind, n, "k")
				for _, at := range somePlaces(n) {
					everyDeed(t, engine, kind, cells, at)
				}
			}
		}
	}
}

func everyDeed(t *testing.T, engine, kind int, cells []api.Cell, at int) {
	t.Helper()
	what := named("place", engine, kind, len(cells), at)
	p := pagesOf(t, engine, kind, 512, cells)
	c, e := p.n.Cell(at)
	if at >= 0 && at < len(cells) {
		same(t, what+": Cell", e, api.OK)
		sameCell(t, what+": Cell", c, cells[at])
	} else {
		same(t, what+": Cell", e, api.ErrSlot)
		sameCell(t, what+": the cell beside the error", c, api.Cell{})
	}
	keys := []string{"", "a", "k", "k\x00", "k\x00\x00", "k\x00\x01", "k\x00\x01\x00", "k\x00\x02x", "k\x00\x03", "k\x01", "l", long(64), long(65)}
	for _, key := range keys {
		for do := range 3 {
			p := pagesOf(t, engine, kind, 512, cells)
			p.does(t, what+" key "+key, deed{do, at, other(kind, key)})
			p.does(t, what+" key "+key+", a cell that may not be", deed{do, at, other(5-kind, key)})
		}
	}
}

// P8.7: a packed branch keeps its first cell, if the next one's key has no room when it stands whole; a plain one does not.
func TestRemoveOfTheFirst(t *testing.T) {
	cells := row(child("", 2, 1))
	for i := range 62 {
		cells = append(cells, child(long(60)+string([]byte{byte(i)}), 2, 1))
	}
	p := pagesOf(t, api.Packed, api.PageBranch, 512, cells)
	same(t, "packed", p.does(t, "Remove(0)", deed{what: 2, at: 0}), api.ErrFit)
	same(t, "packed", p.does(t, "Remove(1)", deed{what: 2, at: 1}), api.OK)
	same(t, "packed", p.does(t, "Remove(0) once more", deed{what: 2, at: 0}), api.ErrFit)
	p = pagesOf(t, api.Plain, api.PageBranch, 512, cells[:6])
	same(t, "plain", p.does(t, "Remove(0)", deed{what: 2, at: 0}), api.OK)
	p = pagesOf(t, api.Packed, api.PageBranch, 512, cells[:6])
	same(t, "packed, with room", p.does(t, "Remove(0)", deed{what: 2, at: 0}), api.OK)
}
