package packed_test

import (
	"math/rand"
	"slices"
	"strconv"
	"strings"
	"testing"

	"espalier/api"
	"espalier/packed"
)

// list is a page told as plainly as can be: its cells, its prefix, its waste.
type list struct {
	kind, page int
	cells      []api.Cell
	prefix     string
	waste      int
}

// anew is a list of these cells, laid anew.
func anew(kind, page int, cells []api.Cell) *list {
	l := &list{kind: kind, page: page, cells: cells}
	l.tidy()
	return l
}

func (l *list) tidy() { l.prefix, l.waste = share(l.kind, l.cells), 0 }

// whole tells whether the cell i is a branch's first one.
func (l *list) whole(i int) bool { return l.kind == api.PageBranch && i == 0 }

// bytesOf tells how many bytes the cell i has.
func (l *list) bytesOf(i int) int { return len(records(l.kind, l.cells, l.prefix)[i]) }

// refused is what is wrong with these cells, of which one is new, and may be.
func (l *list) refused(cells []api.Cell) api.Errno {
	for i := 1; i < len(cells); i++ {
		if !ahead(cells[i-1].Key, cells[i].Key) {
			return api.ErrOrder
		}
	}
	if size(l.kind, cells) > l.page {
		return api.ErrFit
	}
	return api.OK
}

// over tells whether the prefix and the waste can't stay, now that c is there.
func (l *list) over(c api.Cell, free bool) bool {
	return !free && !strings.HasPrefix(string(c.Key), l.prefix) || takenWith(l.kind, l.cells, l.prefix)+l.waste > l.page
}

func (l *list) insert(i int, c api.Cell) api.Errno {
	if i < 0 || i > len(l.cells) {
		return api.ErrSlot
	}
	if !mayBe(l.kind, l.page, c) {
		return api.ErrCell
	}
	cells := slices.Insert(slices.Clone(l.cells), i, c)
	if e := l.refused(cells); e != api.OK {
		return e
	}
	l.cells = cells
	if l.whole(i) || l.over(c, false) {
		l.tidy()
	}
	return api.OK
}

func (l *list) set(i int, c api.Cell) api.Errno {
	if i < 0 || i >= len(l.cells) {
		return api.ErrSlot
	}
	if !mayBe(l.kind, l.page, c) {
		return api.ErrCell
	}
	cells := slices.Clone(l.cells)
	cells[i] = c
	if e := l.refused(cells); e != api.OK {
		return e
	}
	l.waste += l.bytesOf(i)
	l.cells = cells
	if l.over(c, l.whole(i)) {
		l.tidy()
	}
	return api.OK
}

func (l *list) remove(i int) api.Errno {
	if i < 0 || i >= len(l.cells) {
		return api.ErrSlot
	}
	cells := slices.Delete(slices.Clone(l.cells), i, i+1)
	if l.whole(i) && size(l.kind, cells) > l.page {
		return api.ErrFit
	}
	l.waste += l.bytesOf(i)
	l.cells = cells
	if l.whole(i) || len(cells) == 0 {
		l.tidy()
	}
	return api.OK
}

func (l *list) find(key []byte) (int, bool) {
	n := 0
	for _, c := range l.cells {
		if ahead(c.Key, key) {
			n++
		}
	}
	return n, n < len(l.cells) && string(l.cells[n].Key) == string(key)
}

// anyKey begins with the stem, mostly, and is mostly short behind it, so that keys meet.
func anyKey(r *rand.Rand, most int, stem string) []byte {
	n := r.Intn(3)
	if r.Intn(8) == 0 {
		n = r.Intn(most)
	}
	switch r.Intn(24) {
	case 0:
		stem = stem[:r.Intn(len(stem)+1)]
	case 1:
		stem = ""
	}
	b := []byte(stem)
	for range 1 + n {
		b = append(b, "\x00\x01abc\xfe\xff"[r.Intn(7)])
	}
	return b[:min(len(b), most)]
}

// anyCell may be in such a page.
func anyCell(r *rand.Rand, kind, page int, stem string) api.Cell {
	c := api.Cell{Key: anyKey(r, page/8, stem), Page: 2 + r.Intn(65534), Count: 1 + r.Intn(1<<30)}
	if r.Intn(2) == 0 {
		c.Page, c.Count = 2+r.Intn(300), 1+r.Intn(300)
	}
	if kind == api.PageBranch {
		c.Kind = api.CellChild
		if r.Intn(10) == 0 {
			c.Key = nil
		}
		return c
	}
	switch r.Intn(6) {
	case 0:
		c.Kind, c.Count = api.CellSpill, page/16*3+1+r.Intn(65536-page/16*3)
	case 1:
		c.Kind = api.CellTree
	case 2:
		c.Kind, c.Page, c.Count = api.CellTree, 0, 0
	default:
		n := r.Intn(12)
		if r.Intn(8) == 0 {
			n = r.Intn(page/16*3 + 1)
		}
		c.Kind, c.Page, c.Count, c.Value = api.CellValue, 0, 0, []byte(long(n))
	}
	return c
}

// spoilt is a cell that mostly may not be.
func spoilt(r *rand.Rand, kind, page int) api.Cell {
	c := anyCell(r, kind, page, "")
	switch r.Intn(6) {
	case 0:
		c.Key = nil
	case 1:
		c.Key = []byte(long(page/8 + 1))
	case 2:
		c.Value = []byte(long(page/16*3 + 1))
	case 3:
		c.Page = r.Intn(3)
	case 4:
		c.Count = r.Intn(2) * (1<<30 + 1)
	default:
		c.Kind = r.Intn(7)
	}
	return c
}

// seen counts what came in a run, so that a run that misses the edges is not taken for a good one.
type seen struct{ full, laidAnew, firstStays, emptied, wasted int }

// P7.4 to P7.11: whatever is done, a page has the cells, the prefix and the waste that a list would have.
func TestLongRuns(t *testing.T) {
	for _, run := range []struct{ page, steps int }{{512, 12000}, {1024, 3000}, {4096, 800}, {65536, 60}} {
		for _, kind := range kinds() {
			r, s := chance(), &seen{}
			p, l := made(t, kind, run.page), &list{kind: kind, page: run.page}
			if run.page == 65536 {
				p, l = opened(t, kind, run.page, many(kind, run.page, long(500))[:2000]...)
			}
			stem := l.prefix
			for step := range run.steps {
				what := strconv.Itoa(run.page) + ", kind " + strconv.Itoa(kind) + ", step " + strconv.Itoa(step) + ": "
				if len(l.cells) == 0 || r.Intn(300) == 0 {
					stem = string(anyKey(r, run.page/8, long(r.Intn(run.page/8-1))))
				}
				// Times of growing and of shrinking, so that both a full page and an empty one come.
				p = oneStep(t, what, r, p, l, s, stem, step/200%3 == 2)
				if t.Failed() {
					return
				}
			}
			if run.page == 512 && (s.full < 20 || s.laidAnew < 20 || s.emptied < 5 || s.wasted < 20 || kind == api.PageBranch && s.firstStays < 5) {
				t.Errorf("kind %d: the run misses something: %+v", kind, *s)
			}
		}
	}
}

// oneStep does one thing to both, and holds them against each other.
func oneStep(t *testing.T, what string, r *rand.Rand, p *packed.Page, l *list, s *seen, stem string, shrink bool) *packed.Page {
	t.Helper()
	c := anyCell(r, l.kind, l.page, stem)
	if r.Intn(8) == 0 {
		c = spoilt(r, l.kind, l.page)
	}
	at, _ := l.find(c.Key)
	switch r.Intn(12) {
	case 0, 1:
		at = 0
	case 2, 3:
		at = r.Intn(len(l.cells)+4) - 2
	}
	before, had := l.waste, len(l.cells)
	oneDeed(t, what, r, p, l, s, at, c, shrink)
	switch {
	case before > 0 && l.waste == 0 && len(l.cells) > 0:
		s.laidAnew++
	case had > 0 && len(l.cells) == 0:
		s.emptied++
	case l.waste > before:
		s.wasted++
	}
	found(t, what, p, l, c.Key, r.Intn(len(l.cells)+4)-2)
	stands(t, what, p, l)
	if r.Intn(64) > 0 {
		return p
	}
	again, e := packed.Open(p.Bytes())
	same(t, what+"Open of Bytes", e, api.OK)
	l.tidy()
	stands(t, what+"Open of Bytes", again, l)
	return again
}

// oneDeed is Insert, Set, Remove or Tidy.
func oneDeed(t *testing.T, what string, r *rand.Rand, p *packed.Page, l *list, s *seen, at int, c api.Cell, shrink bool) {
	t.Helper()
	do := r.Intn(20)
	if shrink {
		do = 9 + r.Intn(11)
	}
	var got, want api.Errno
	switch {
	case do < 11:
		got, want = p.Insert(at, c), l.insert(at, c)
	case do < 15:
		if has, _ := l.find(c.Key); r.Intn(2) == 0 && has < len(l.cells) {
			c.Key, at = l.cells[has].Key, has
		}
		got, want = p.Set(at, c), l.set(at, c)
	case do < 19 || r.Intn(4) > 0:
		got, want = p.Remove(at), l.remove(at)
		if want == api.ErrFit {
			s.firstStays++
		}
	default:
		p.Tidy()
		l.tidy()
		same(t, what+"Used behind Tidy", p.Used(), packed.Size(l.kind, l.cells))
	}
	same(t, what+"what came of "+strconv.Itoa(do), got, want)
	if want == api.ErrFit {
		s.full++
	}
}

// found holds Find and Near against the list.
func found(t *testing.T, what string, p *packed.Page, l *list, key []byte, hint int) {
	t.Helper()
	j, there := l.find(key)
	i, is := p.Find(key)
	same(t, what+"Find's place", i, j)
	same(t, what+"Find", is, there)
	i, is = p.Near(key, hint)
	same(t, what+"Near's place", i, j)
	same(t, what+"Near", is, there)
}
