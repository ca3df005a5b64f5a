package grove_test

import (
	"encoding/binary"
	"fmt"
	"maps"
	"slices"
	"strings"
	"testing"

	"espalier/api"
	"espalier/ink"
	"espalier/node"
)

// grown is what a good tree has.
type grown struct {
	cells  []api.Cell
	pages  []int
	levels int
}

// survey is what a good grove has.
type survey struct {
	catalog grown
	trees   map[string]grown
	pairs   map[string][]pair
	pages   []int // of all trees and chains, rising
}

// surveyor holds the pages that are reached from a catalog's root against the chapter's words, and chapter 12's I1 to I5. It reads pages by node.Decode alone.
type surveyor struct {
	s     *shelf
	fault string
	at    *grown // the tree that is looked at
}

func (l *surveyor) wrong(form string, args ...any) {
	if l.fault == "" {
		l.fault = fmt.Sprintf(form, args...)
	}
}

// isName is the chapter's words on names.
func isName(name string) bool {
	return len(name) >= 1 && len(name) <= 64 && strings.Trim(name, "abcdefghijklmnopqrstuvwxyz0123456789-_./") == ""
}

// good tells what a grove has, and what is wrong with it.
func (s *shelf) good(root, count int) (survey, string) {
	l := &surveyor{s: s}
	v := survey{catalog: l.tree(root), trees: map[string]grown{}, pairs: map[string][]pair{}}
	v.pages = slices.Clone(v.catalog.pages)
	if len(v.catalog.cells) != count || count > 256 {
		l.wrong("%d trees, and %d are told", len(v.catalog.cells), count)
	}
	for _, c := range v.catalog.cells {
		name := string(c.Key)
		if c.Kind != api.CellTree || !isName(name) {
			l.wrong("the catalog tells %q, a cell of kind %d", name, c.Kind)
		}
		g := l.tree(c.Page)
		if len(g.cells) != c.Count {
			l.wrong("%q: %d cells, and %d are told", name, len(g.cells), c.Count)
		}
		v.trees[name] = g
		v.pages = append(v.pages, g.pages...)
		for _, k := range g.cells {
			text, chain := l.value(k)
			v.pairs[name] = append(v.pairs[name], pair{string(k.Key), text})
			v.pages = append(v.pages, chain...)
		}
	}
	slices.Sort(v.pages)
	if len(slices.Compact(slices.Clone(v.pages))) != len(v.pages) {
		l.wrong("a page stands in two places: %v", v.pages)
	}
	return v, l.fault
}

func (l *surveyor) tree(root int) grown {
	var g grown
	l.at = &g
	if root != 0 {
		l.look(root, 1, "", "", false)
	}
	return g
}

// look looks at a page, below which all keys stand from lo on, and ahead of hi (if there is one).
func (l *surveyor) look(page, depth int, lo, hi string, bounded bool) {
	engine, kind, cells, e := node.Decode(l.s.held[page])
	l.at.pages = append(l.at.pages, page)
	if e != api.OK || engine != l.s.engine || len(l.s.held[page]) != l.s.size || depth > 40 {
		l.wrong("page %d, at depth %d: %d", page, depth, e)
		return
	}
	if len(cells) < 2 && !(depth == 1 && kind == api.PageLeaf && len(cells) == 1) {
		l.wrong("I4, I5: page %d has %d cells", page, len(cells))
	}
	for i, c := range cells {
		key := string(c.Key)
		if kind == api.PageBranch {
			l.below(page, depth, cells, i, lo, hi, bounded)
		} else if key < lo || bounded && key >= hi {
			l.wrong("I2: page %d, cell %d: %q beyond its bounds %q, %q", page, i, key, lo, hi)
		}
	}
	if kind == api.PageBranch {
		return
	}
	if l.at.levels == 0 {
		l.at.levels = depth
	}
	if depth != l.at.levels {
		l.wrong("I1: leaf %d at depth %d, not %d", page, depth, l.at.levels)
	}
	l.at.cells = append(l.at.cells, cells...)
}

// below looks at what a branch's cell leads to. (That keys rise within a page is Decode's business.)
func (l *surveyor) below(page, depth int, cells []api.Cell, i int, lo, hi string, bounded bool) {
	c := cells[i]
	if i == 0 && len(c.Key) > 0 {
		l.wrong("I2: the first key of branch %d is %q", page, c.Key)
	}
	if i > 0 {
		lo = string(c.Key)
	}
	if i+1 < len(cells) {
		hi, bounded = string(cells[i+1].Key), true
	}
	was := len(l.at.cells)
	l.look(c.Page, depth+1, lo, hi, bounded)
	if n := len(l.at.cells) - was; n != c.Count {
		l.wrong("I3: branch %d, cell %d: %d, not %d", page, i, c.Count, n)
	}
}

// value is a cell's value, and the pages of its chain, byte by byte as chapter 9 has it.
func (l *surveyor) value(c api.Cell) (string, []int) {
	most := l.s.size / 16 * 3
	if c.Kind == api.CellValue && len(c.Value) <= most {
		return string(c.Value), nil
	}
	if c.Kind != api.CellSpill || c.Count <= most || c.Count > 65536 {
		l.wrong("%q: a cell of kind %d, %d bytes", c.Key, c.Kind, c.Count)
		return "", nil
	}
	var pages []int
	var text []byte
	for page := c.Page; len(text) < c.Count; {
		b := l.s.held[page]
		pages = append(pages, page)
		n := min(c.Count-len(text), l.s.size-16)
		if len(b) != l.s.size || b[0] != 4 || int(binary.BigEndian.Uint32(b[8:])) != n || ink.Sum(b[:len(b)-4]) != binary.BigEndian.Uint32(b[len(b)-4:]) {
			l.wrong("%q: page %d of its chain is none", c.Key, page)
			break
		}
		text = append(text, b[12:12+n]...)
		page = int(binary.BigEndian.Uint32(b[4:]))
		if (page == 0) != (len(text) == c.Count) {
			l.wrong("%q: its chain ends at %d bytes", c.Key, len(text))
			break
		}
	}
	return string(text), pages
}

// state is what a grove must have: sorted maps by names.
type state map[string]map[string]string

func (w state) copied() state {
	c := state{}
	for name, m := range w {
		c[name] = maps.Clone(m)
	}
	return c
}

func (w state) names() []string { return slices.Sorted(maps.Keys(w)) }

// rising is the pairs of a tree.
func (w state) rising(name string) []pair {
	var l []pair
	for _, key := range slices.Sorted(maps.Keys(w[name])) {
		l = append(l, pair{key, w[name][key]})
	}
	return l
}

// holds holds a grove against a state, and the pages that there are against those that it takes. It tells what it has.
func (s *shelf) holds(t *testing.T, what string, root, count int, want state) survey {
	t.Helper()
	v, fault := s.good(root, count)
	if fault != "" {
		t.Fatalf("%s: no good grove: %s", what, fault)
	}
	sameList(t, what+": the pages", s.taken(), v.pages)
	sameList(t, what+": the trees", slices.Sorted(maps.Keys(v.trees)), want.names())
	for name := range want {
		samePairs(t, what+": "+name, v.pairs[name], want.rising(name))
	}
	if t.Failed() {
		t.FailNow()
	}
	return v
}
