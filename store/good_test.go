package store_test

import (
	"encoding/binary"
	"fmt"
	"slices"
	"testing"

	"espalier/api"
	"espalier/free"
	"espalier/ink"
	"espalier/meta"
	"espalier/node"
)

// surveyor reads an image, page by page, and holds it against the chapters' words: what its last commit has, and whether each page stands in one place.
type surveyor struct {
	image []byte
	meta  api.Meta
	seen  map[int]string // where each page stands
	state state
	cells []api.Cell // of the tree that is looked at
	depth int        // of its leaves
	fault string
}

func (l *surveyor) wrong(form string, args ...any) {
	if l.fault == "" {
		l.fault = fmt.Sprintf(form, args...)
	}
}

// surveyed is what an image's last commit has, and what is wrong with it.
func surveyed(image []byte, page, engine int) (state, api.Meta, string) {
	l := &surveyor{image: image, seen: map[int]string{}, state: state{}}
	m, _, e := meta.Choose(image[:page], image[page:2*page])
	if e != api.OK || m.Engine != engine || m.Page != page {
		return nil, m, fmt.Sprintf("no meta page: %+v, %d", m, e)
	}
	l.meta = m
	catalog := l.tree(m.Root, "the catalog")
	if len(catalog) != m.Count {
		l.wrong("%d trees, and %d are told", len(catalog), m.Count)
	}
	for _, c := range catalog {
		name := string(c.Key)
		if c.Kind != api.CellTree || !isName(name) {
			l.wrong("the catalog tells %q, a cell of kind %d", name, c.Kind)
		}
		cells := l.tree(c.Page, name)
		if len(cells) != c.Count {
			l.wrong("%q: %d cells, and %d are told", name, len(cells), c.Count)
		}
		l.state[name] = map[string]string{}
		for _, k := range cells {
			l.state[name][string(k.Key)] = l.value(name, k)
		}
	}
	l.list()
	for n := 2; n < m.High; n++ {
		if l.seen[n] == "" {
			l.wrong("page %d is lost", n)
		}
	}
	return l.state, m, l.fault
}

// enter is a page that stands in that place: its bytes.
func (l *surveyor) enter(n int, where string) []byte {
	if n < 2 || n >= l.meta.High {
		l.wrong("%s: page %d, High is %d", where, n, l.meta.High)
		return nil
	}
	if l.seen[n] != "" {
		l.wrong("page %d stands in %s, and in %s", n, l.seen[n], where)
	}
	l.seen[n] = where
	return l.image[n*l.meta.Page : (n+1)*l.meta.Page]
}

func (l *surveyor) tree(root int, where string) []api.Cell {
	l.cells, l.depth = nil, 0
	if root != 0 {
		l.page(root, 1, "", "", false, where)
	}
	return l.cells
}

// page looks at a page of a tree, below which all keys stand from lo on, and ahead of hi (if there is one): chapter 12's I1 to I5.
func (l *surveyor) page(n, depth int, lo, hi string, bounded bool, where string) {
	engine, kind, cells, e := node.Decode(l.enter(n, where))
	if e != api.OK || engine != l.meta.Engine || depth > 40 {
		l.wrong("%s: page %d, at depth %d: %d", where, n, depth, e)
		return
	}
	if len(cells) < 2 && !(depth == 1 && kind == api.PageLeaf && len(cells) == 1) {
		l.wrong("I4, I5: %s: page %d has %d cells", where, n, len(cells))
	}
	if kind == api.PageLeaf {
		l.leaf(n, depth, cells, lo, hi, bounded)
		return
	}
	for i, c := range cells {
		if i > 0 {
			lo = string(c.Key)
		} else if len(c.Key) > 0 {
			l.wrong("I2: the first key of branch %d is %q", n, c.Key)
		}
		end, isEnd := hi, bounded
		if i+1 < len(cells) {
			end, isEnd = string(cells[i+1].Key), true
		}
		was := len(l.cells)
		l.page(c.Page, depth+1, lo, end, isEnd, where)
		if k := len(l.cells) - was; k != c.Count {
			l.wrong("I3: branch %d, cell %d: %d, not %d", n, i, c.Count, k)
		}
	}
}

func (l *surveyor) leaf(n, depth int, cells []api.Cell, lo, hi string, bounded bool) {
	for i, c := range cells {
		if key := string(c.Key); key < lo || bounded && key >= hi {
			l.wrong("I2: page %d, cell %d: %q beyond its bounds %q, %q", n, i, key, lo, hi)
		}
	}
	if l.depth == 0 {
		l.depth = depth
	}
	if depth != l.depth {
		l.wrong("I1: leaf %d at depth %d, not %d", n, depth, l.depth)
	}
	l.cells = append(l.cells, cells...)
}

// value is a cell's value; a long one is read byte by byte as chapter 9 has it.
func (l *surveyor) value(name string, c api.Cell) string {
	most := l.meta.Page / 16 * 3
	if c.Kind == api.CellValue && len(c.Value) <= most {
		return string(c.Value)
	}
	if c.Kind != api.CellSpill || c.Count <= most || c.Count > 65536 {
		l.wrong("%s: %q: a cell of kind %d, %d bytes", name, c.Key, c.Kind, c.Count)
		return ""
	}
	var text []byte
	for page := c.Page; len(text) < c.Count && l.fault == ""; {
		b := l.enter(page, fmt.Sprintf("the chain of %s, %q", name, c.Key))
		n := min(c.Count-len(text), l.meta.Page-16)
		if b == nil || b[0] != 4 || int(binary.BigEndian.Uint32(b[8:])) != n || ink.Sum(b[:len(b)-4]) != binary.BigEndian.Uint32(b[len(b)-4:]) {
			l.wrong("%s: %q: page %d of its chain is none", name, c.Key, page)
			break
		}
		text = append(text, b[12:12+n]...)
		page = int(binary.BigEndian.Uint32(b[4:]))
		if (page == 0) != (len(text) == c.Count) {
			l.wrong("%s: %q: its chain ends at %d bytes", name, c.Key, len(text))
		}
	}
	return string(text)
}

// list looks at the free list, and at those that it lists.
func (l *surveyor) list() {
	listed := 0
	for n := l.meta.Free; n != 0 && l.fault == ""; {
		next, pages, e := free.Decode(l.enter(n, "the list"))
		if e != api.OK {
			l.wrong("page %d of the list: %d", n, e)
			return
		}
		for _, page := range pages {
			l.enter(page, "those that are listed")
		}
		listed += len(pages)
		n = next
	}
	if listed != l.meta.Listed {
		l.wrong("%d are listed, and %d told", listed, l.meta.Listed)
	}
}

// P17.11, and what a device must have: whole holds its last commit against the maps.
func (r *rig) whole() {
	r.t.Helper()
	got, m, fault := surveyed(r.p.Image(), r.p.Page(), r.engine)
	if fault != "" {
		r.t.Fatalf("%s: commit %d is not whole: %s", r.what, m.Txn, fault)
	}
	r.is("the number on the device", m.Txn, r.txn)
	sameState(r.t, r.what+": on the device", got, r.committed)
	r.is("loose writes", r.p.Loose(), 0)
}

func sameState(t *testing.T, what string, got, want state) {
	if got.equal(want) {
		return
	}
	t.Helper()
	sameList(t, what+": the trees", got.names(), want.names())
	for name := range want {
		if !slices.Equal(got.rising(name), want.rising(name)) {
			sameList(t, what+": "+name, got.rising(name), want.rising(name))
		}
	}
	t.FailNow()
}

// meter counts what P17.8 hangs on, over all that a store has held: the most of each at any moment, of the working and the committed state together.
type meter struct {
	size                        int
	pairs, trees, chains, value int
}

// chain is how many pages a value's chain takes.
func (m *meter) chain(value string) int {
	if len(value) <= m.size/16*3 {
		return 0
	}
	return (len(value) + m.size - 17) / (m.size - 16)
}

func (m *meter) handIn(value string) { m.value = max(m.value, m.chain(value)) }

// weigh is how many pairs, trees and pages of chains there are.
func (m *meter) weigh(w state) (pairs, trees, chains int) {
	for _, tree := range w {
		trees++
		for _, value := range tree {
			pairs++
			chains += m.chain(value)
		}
	}
	return pairs, trees, chains
}

// note counts what there is of these states, and of some pairs more, at one moment.
func (m *meter) note(more []pair, states ...state) {
	pairs, trees, chains := len(more), 0, 0
	for _, p := range more {
		chains += m.chain(p.value)
	}
	for _, w := range states {
		p, t, c := m.weigh(w)
		pairs, trees, chains = pairs+p, trees+t, chains+c
	}
	m.pairs, m.trees, m.chains = max(m.pairs, pairs), max(m.trees, trees), max(m.chains, chains)
}

// roomy is how many pages are enough, as P17.8 has it.
func (m *meter) roomy() int { return 200 + 4*(m.pairs+2*m.trees+m.chains+m.value) }

func (r *rig) measure() { r.meter.note(nil, r.committed, r.working) }

func (r *rig) measureLoad(l []pair) {
	for _, p := range l {
		r.meter.handIn(p.value)
	}
	r.meter.note(l, r.committed, r.working)
}
