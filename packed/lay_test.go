package packed_test

import (
	"slices"
	"strconv"
	"testing"

	"espalier/api"
	"espalier/packed"
)

// lays holds what a page tells of how it is laid.
func lays(t *testing.T, what string, p *packed.Page, prefix string, waste, used int) {
	t.Helper()
	same(t, what+": Prefix", string(p.Prefix()), prefix)
	same(t, what+": Waste", p.Waste(), waste)
	same(t, what+": Used", p.Used(), used)
}

// P7.7: an empty leaf has no prefix, and gets none till it is laid anew; a cell that does not begin with the prefix makes it so.
func TestInsertInALeaf(t *testing.T) {
	p := made(t, api.PageLeaf, 512)
	for i, k := range []string{"kka", "kkb", "kkc"} {
		same(t, "Insert", p.Insert(i, value(k, "")), api.OK)
		lays(t, "Insert", p, "", 0, 10+8*(i+1))
	}
	p.Tidy()
	lays(t, "Tidy", p, "kk", 0, 12+3*6)
	same(t, "Insert(3, kkd)", p.Insert(3, value("kkd", "")), api.OK)
	lays(t, "Insert(3, kkd)", p, "kk", 0, 12+4*6)
	same(t, "Insert(0, kk)", p.Insert(0, value("kk", "")), api.OK)
	lays(t, "Insert of the prefix itself", p, "kk", 0, 12+4*6+5)
	same(t, "Remove(1)", p.Remove(1), api.OK)
	lays(t, "Remove(1)", p, "kk", 4, 12+3*6+5)
	same(t, "Insert(0, k)", p.Insert(0, value("k", "")), api.OK)
	lays(t, "Insert of half the prefix", p, "k", 0, 11+5+6+3*7)
	same(t, "Set(0, ka)", p.Set(0, value("ka", "")), api.OK)
	lays(t, "Set(0, ka)", p, "k", 3, 11+6+6+3*7)
	same(t, "Insert(5, l)", p.Insert(5, value("l", "")), api.OK)
	lays(t, "Insert of another beginning", p, "", 0, 10+7+7+3*8+6)
}

// P7.7: one cell's key is its prefix, if the page is laid anew with it alone.
func TestPrefixOfOneCell(t *testing.T) {
	p, _ := opened(t, api.PageLeaf, 512, value("kkk", "v"))
	lays(t, "Open", p, "kkk", 0, 10+3+2+4)
	same(t, "Insert of a longer key", p.Insert(1, value("kkka", "")), api.OK)
	lays(t, "Insert of a longer key", p, "kkk", 0, 10+3+6+6)
	same(t, "Insert of a shorter key", p.Insert(0, value("kk", "")), api.OK)
	lays(t, "Insert of a shorter key", p, "kk", 0, 10+2+5+7+7)
	q, _ := opened(t, api.PageLeaf, 512, value("kkk", "v"))
	same(t, "Set of a longer key", q.Set(0, value("kkkk", "")), api.OK)
	lays(t, "Set of a longer key", q, "kkk", 4, 10+3+6)
	same(t, "Set of a shorter key", q.Set(0, value("kk", "")), api.OK)
	lays(t, "Set of a shorter key", q, "kk", 0, 10+2+5)
}

// P7.7: a branch that had one cell when it was laid anew has no prefix; every cell that is put ahead of all lays it anew.
func TestInsertInABranch(t *testing.T) {
	p := made(t, api.PageBranch, 512)
	same(t, "Insert(0)", p.Insert(0, child("kk", 2, 1)), api.OK)
	lays(t, "one cell", p, "", 0, 10+8)
	p.Tidy()
	lays(t, "one cell, laid anew", p, "", 0, 10+8)
	same(t, "Insert(1)", p.Insert(1, child("kka", 2, 1)), api.OK)
	lays(t, "two cells", p, "", 0, 10+8+9)
	p.Tidy()
	lays(t, "two cells, laid anew", p, "kka", 0, 10+3+8+6)
	same(t, "Insert(2)", p.Insert(2, child("kkb", 2, 1)), api.OK)
	lays(t, "another beginning", p, "kk", 0, 10+2+8+7+7)
	same(t, "Insert(0)", p.Insert(0, child("", 2, 1)), api.OK)
	lays(t, "ahead of all", p, "kk", 0, 10+2+6+6+7+7)
	same(t, "Set(2)", p.Set(2, child("kka", 3, 1)), api.OK)
	lays(t, "Set(2)", p, "kk", 5, 10+2+6+6+7+7)
	q, _ := opened(t, api.PageBranch, 512, child("b", 2, 1), child("kka", 3, 1), child("kkb", 4, 1))
	same(t, "Set(2)", q.Set(2, child("kkc", 4, 1)), api.OK)
	lays(t, "Set(2)", q, "kk", 5, 10+2+7+7+7)
	same(t, "Insert(0)", q.Insert(0, child("a", 2, 1)), api.OK)
	lays(t, "ahead of one that does not begin with the prefix", q, "", 0, 10+7+7+9+9)
}

// P7.8: the first key of a branch need not begin with the prefix; its bytes are those of its whole key.
func TestSetFirstOfABranch(t *testing.T) {
	p, _ := opened(t, api.PageBranch, 512, child("kk", 2, 1), child("kka", 3, 1), child("kkb", 4, 1))
	lays(t, "Open", p, "kk", 0, 10+2+8+7+7)
	same(t, "Set(0, a)", p.Set(0, child("a", 2, 1)), api.OK)
	lays(t, "Set(0, a)", p, "kk", 6, 10+2+7+7+7)
	same(t, "Set(0, nothing)", p.Set(0, child("", 2, 1)), api.OK)
	lays(t, "Set(0, nothing)", p, "kk", 11, 10+2+6+7+7)
	same(t, "Set(0, kk)", p.Set(0, child("kk", 300, 1)), api.OK)
	lays(t, "Set(0, kk)", p, "kk", 15, 10+2+9+7+7)
	same(t, "Set(0, kka)", p.Set(0, child("kka", 2, 1)), api.ErrOrder)
	same(t, "Set(1, kl)", p.Set(1, child("kl", 2, 1)), api.ErrOrder)
	lays(t, "refused", p, "kk", 15, 10+2+9+7+7)
	same(t, "Set(2, l)", p.Set(2, child("l", 2, 1)), api.OK)
	lays(t, "Set(2, l)", p, "", 0, 10+9+9+7)
}

// P7.9: the waste is more by the cell's bytes, not by its slot; the prefix stays, also where the others share more.
func TestRemoveInALeaf(t *testing.T) {
	p, _ := opened(t, api.PageLeaf, 512, value("ka", "1"), value("kb", "22"), value("kba", "333"))
	lays(t, "Open", p, "k", 0, 11+7+8+10)
	same(t, "Remove(0)", p.Remove(0), api.OK)
	lays(t, "Remove(0)", p, "k", 5, 11+8+10)
	same(t, "Remove(1)", p.Remove(1), api.OK)
	lays(t, "Remove(1)", p, "k", 13, 11+8)
	same(t, "Insert(1, kc)", p.Insert(1, value("kc", "")), api.OK)
	lays(t, "Insert(1, kc)", p, "k", 13, 11+8+6)
	same(t, "Remove(0)", p.Remove(0), api.OK)
	lays(t, "Remove(0)", p, "k", 19, 11+6)
	same(t, "Remove(0)", p.Remove(0), api.OK)
	lays(t, "no cell is left", p, "", 0, 10)
	p.Tidy()
	lays(t, "Tidy of none", p, "", 0, 10)
}

// P7.9: a branch's first cell takes the prefix with it; another one does not, even if no other cell has it.
func TestRemoveInABranch(t *testing.T) {
	cells := row(child("", 2, 1), child("ka", 3, 1), child("kb", 4, 1), child("kba", 5, 1))
	p, _ := opened(t, api.PageBranch, 512, cells...)
	lays(t, "Open", p, "k", 0, 11+6+7+7+8)
	same(t, "Remove(1)", p.Remove(1), api.OK)
	lays(t, "Remove(1)", p, "k", 5, 11+6+7+8)
	same(t, "Remove(0)", p.Remove(0), api.OK)
	lays(t, "Remove(0)", p, "kba", 0, 13+8+6)
	same(t, "Remove(1)", p.Remove(1), api.OK)
	lays(t, "one cell, a prefix that none has", p, "kba", 4, 13+8)
	same(t, "Insert(1)", p.Insert(1, child("kbaa", 5, 1)), api.OK)
	lays(t, "one that begins with it", p, "kba", 4, 13+8+7)
	same(t, "Remove(1)", p.Remove(1), api.OK)
	lays(t, "one cell once more", p, "kba", 9, 13+8)
	same(t, "Set(0)", p.Set(0, child("", 2, 1)), api.OK)
	lays(t, "Set(0)", p, "kba", 15, 13+6)
	p.Tidy()
	lays(t, "Tidy", p, "", 0, 10+6)
	same(t, "Remove(0)", p.Remove(0), api.OK)
	lays(t, "no cell is left", p, "", 0, 10)
}

// P7.7: what it takes with the prefix, and its waste, go just up to the page's size; a byte more lays the page anew.
func TestInsertAtTheEdge(t *testing.T) {
	for _, kind := range kinds() {
		for _, page := range sizes() {
			for more := range 2 {
				p, l := withWaste(t, kind, page)
				// A cell that takes just what is left, or a byte more.
				left := page - p.Used() - p.Waste() + more
				c := taking(kind, left, l.cells[len(l.cells)-1].Key)
				before := p.Used()
				same(t, "Insert", p.Insert(p.Len(), c), l.insert(len(l.cells), c))
				stands(t, "Insert", p, l)
				same(t, "how much more it takes", p.Used()-before, left)
				same(t, "laid anew", p.Waste() == 0, more == 1)
			}
		}
	}
}

// P7.8: likewise, the bytes of the cell that was there being waste already.
func TestSetAtTheEdge(t *testing.T) {
	for _, kind := range kinds() {
		for _, page := range sizes() {
			for more := range 2 {
				p, l := withWaste(t, kind, page)
				// The slot is there already.
				left := page - p.Used() - p.Waste() + more
				at := len(l.cells) - 1
				c := taking(kind, left+2, l.cells[at].Key)
				same(t, "Set", p.Set(at, c), l.set(at, c))
				stands(t, "Set", p, l)
				same(t, "laid anew", p.Waste() == 0, more == 1)
			}
		}
	}
}

// wasting are cells that fill a page nearly; they share one byte.
func wasting(t *testing.T, kind, page int) []api.Cell {
	t.Helper()
	var cells []api.Cell
	for i := range 30 {
		c := value("k"+string([]byte{byte(i)}), long(page/32-8))
		if kind == api.PageBranch {
			c = child("k"+string([]byte{byte(i)})+long(page/32-8), 2, 1)
		}
		cells = append(cells, c)
	}
	same(t, "they share", share(kind, cells), "k")
	same(t, "they have room", size(kind, cells) <= page-20, true)
	return cells
}

// withWaste is a page of these cells without the last ones, which are waste now.
func withWaste(t *testing.T, kind, page int) (*packed.Page, *list) {
	t.Helper()
	p, l := opened(t, kind, page, wasting(t, kind, page)...)
	for l.waste < page/16 {
		at := len(l.cells) - 1
		same(t, "Remove", p.Remove(at), l.remove(at))
	}
	return p, l
}

// taking is a cell that stands behind that key and takes n bytes with its slot, but for the one that it shares.
func taking(kind, n int, behind []byte) api.Cell {
	key := string(behind[:2]) + "\xff"
	for i := range n {
		// The length of a length makes that not every number of bytes comes by one text alone.
		for _, more := range []int{0, 1} {
			c := value(key+long(more), long(i))
			if kind == api.PageBranch {
				c = child(key+long(i), 2, 1+127*more)
			}
			if 2+len(record(c, c.Key[1:])) == n {
				return c
			}
		}
	}
	panic("no cell takes so many bytes")
}

// P7.10: Bytes, Cell, Find and Near hang on the cells alone: pages that came to the same cells by other ways.
func TestSameCellsByOtherWays(t *testing.T) {
	for _, kind := range kinds() {
		cells := stemmed(kind, 5, "stem")
		a, _ := filled(t, kind, 512, cells...)
		b, _ := opened(t, kind, 512, cells...)
		c, _ := opened(t, kind, 512, append(slices.Clone(cells), other(kind, "\xff"))...)
		same(t, "Remove", c.Remove(5), api.OK)
		d, _ := opened(t, kind, 512, cells...)
		for i := range cells {
			same(t, "Set", d.Set(i, other(kind, string(cells[i].Key))), api.OK)
			same(t, "Set", d.Set(i, cells[i]), api.OK)
		}
		lays(t, "filled", a, "", 0, takenWith(kind, cells, ""))
		lays(t, "opened", b, "stem", 0, takenWith(kind, cells, "stem"))
		lays(t, "with one more", c, "", len(record(other(kind, "\xff"), []byte("\xff"))), takenWith(kind, cells, ""))
		same(t, "set: Prefix", string(d.Prefix()), "stem")
		same(t, "set: some waste", d.Waste() > 50, true)
		for _, p := range []*packed.Page{a, b, c, d} {
			sameBytes(t, "Bytes", p.Bytes(), laid(kind, cells, 512))
			for i, c := range cells {
				got, e := p.Cell(i)
				same(t, "Cell", e, api.OK)
				sameCell(t, "Cell", got, c)
				finds(t, p, string(c.Key), i, true)
				finds(t, p, string(c.Key)+"\x00", i+1, false)
			}
			p.Tidy()
			lays(t, "Tidy", p, "stem", 0, packed.Size(kind, cells))
		}
	}
}

// P7.5: what tells changes nothing.
func TestTellingChangesNothing(t *testing.T) {
	for _, kind := range kinds() {
		p, l := opened(t, kind, 512, rowOf(kind, 6)...)
		p.Remove(3)
		l.remove(3)
		p.Set(1, other(kind, keyOf(2)))
		l.set(1, other(kind, keyOf(2)))
		for range 3 {
			stands(t, "told again", p, l)
			finds(t, p, keyOf(2), 1, true)
		}
	}
}

// P7.9, P7.10: a full branch with long keys: which of its first cells can go.
func TestFirstOfAFullBranch(t *testing.T) {
	for _, page := range sizes() {
		stem := long(page/8 - 2)
		cells := row(child("", 2, 1))
		for i := range 40 {
			cells = append(cells, child(stem+string([]byte{byte(i)}), 65535, 1<<30))
		}
		for size(api.PageBranch, cells) > page {
			cells = cells[:len(cells)-1]
		}
		for n := len(cells); n > 1; n-- {
			p, l := opened(t, api.PageBranch, page, cells[:n]...)
			want := api.OK
			if size(api.PageBranch, cells[1:n]) > page {
				want = api.ErrFit
			}
			what := strconv.Itoa(page) + ", " + strconv.Itoa(n) + " cells"
			same(t, what, p.Remove(0), want)
			same(t, what+", of the list", l.remove(0), want)
			stands(t, what, p, l)
		}
	}
}
