package cursor_test

import (
	"bytes"
	"fmt"
	"math/rand"
	"slices"
	"strings"
	"testing"

	"espalier/api"
	"espalier/cursor"
	"espalier/node"
)

func engines() []int { return []int{api.Plain, api.Packed} }

// chance is the same row of numbers in every run.
func chance() *rand.Rand { return rand.New(rand.NewSource(13)) }

func value(key, v string) api.Cell {
	return api.Cell{Key: []byte(key), Kind: api.CellValue, Value: []byte(v)}
}

func spill(key string, page, count int) api.Cell {
	return api.Cell{Key: []byte(key), Kind: api.CellSpill, Page: page, Count: count}
}

func named(key string, page, count int) api.Cell {
	return api.Cell{Key: []byte(key), Kind: api.CellTree, Page: page, Count: count}
}

// lead is a branch's cell; how many entries it counts does not matter to cursors.
func lead(key string, page int) api.Cell {
	return api.Cell{Key: []byte(key), Kind: api.CellChild, Page: page, Count: 2}
}

func row(l ...api.Cell) []api.Cell { return l }

// values are cells with these keys, each with its key as the value, cut off at 9 bytes.
func values(keys ...string) []api.Cell {
	var l []api.Cell
	for _, k := range keys {
		l = append(l, value(k, k[:min(len(k), 9)]))
	}
	return l
}

// long is a text of n bytes.
func long(n int) string { return strings.Repeat("x", n) }

func same[T comparable](t *testing.T, what string, got, want T) {
	if got != want {
		t.Helper()
		t.Errorf("%s: %v, want %v", what, got, want)
	}
}

func alike(a, b api.Cell) bool {
	return a.Kind == b.Kind && a.Page == b.Page && a.Count == b.Count && bytes.Equal(a.Key, b.Key) && bytes.Equal(a.Value, b.Value)
}

func sameCell(t *testing.T, what string, got, want api.Cell) {
	if !alike(got, want) {
		t.Helper()
		t.Errorf("%s: %+v, want %+v", what, got, want)
	}
}

// pair is what a range tells at a time.
type pair struct {
	c api.Cell
	e api.Errno
}

// fine are these cells, each with OK.
func fine(cells []api.Cell) []pair {
	var l []pair
	for _, c := range cells {
		l = append(l, pair{c: c})
	}
	return l
}

func samePairs(t *testing.T, what string, got, want []pair) {
	t.Helper()
	same(t, what+": how many are told", len(got), len(want))
	for i := range min(len(got), len(want)) {
		same(t, fmt.Sprintf("%s: error %d", what, i), got[i].e, want[i].e)
		sameCell(t, fmt.Sprintf("%s: cell %d", what, i), got[i].c, want[i].c)
	}
}

// scanned is what a range tells, so many at most.
func scanned(r api.Room, root int, lo, hi string, reverse bool, most int) []pair {
	var l []pair
	for c, e := range cursor.Scan(r, root, []byte(lo), []byte(hi), reverse) {
		if l = append(l, pair{c, e}); len(l) == most {
			break
		}
	}
	return l
}

// An error that no other part of these tests tells.
const ofTheRoom = api.ErrViews

// act is something that a room was asked.
type act struct {
	what string
	page int
}

// shelf is a room of which a test sees and sets all. It hands out its own memory, so that whoever shares it is seen.
type shelf struct {
	engine, size int
	held         map[int][]byte
	acts         []act
	fail         int // the number of the act that is refused, from 0 on; below 0: none
}

func newShelf(engine, size int) *shelf {
	return &shelf{engine: engine, size: size, held: map[int][]byte{}, fail: -1}
}

func (s *shelf) refuses(what string, page int) bool {
	s.acts = append(s.acts, act{what, page})
	return s.fail == len(s.acts)-1
}

func (s *shelf) Engine() int { return s.engine }

func (s *shelf) Size() int { return s.size }

func (s *shelf) Read(n int) ([]byte, api.Errno) {
	if s.refuses("read", n) {
		return nil, ofTheRoom
	}
	b, is := s.held[n]
	if !is {
		return nil, api.ErrPage
	}
	return b, api.OK
}

func (s *shelf) Alloc() (int, api.Errno) {
	s.refuses("alloc", 0)
	return 0, api.ErrState
}

func (s *shelf) Write(n int, b []byte) api.Errno {
	s.refuses("write", n)
	return api.ErrState
}

func (s *shelf) Free(n int) api.Errno {
	s.refuses("free", n)
	return api.ErrState
}

func (s *shelf) Fresh(n int) bool {
	s.refuses("fresh", n)
	return false
}

func (s *shelf) Spare(n int) bool {
	s.refuses("spare", n)
	return false
}

// justRead holds what the shelf was asked against P13's words: it was read, and nothing else.
func (s *shelf) justRead(t *testing.T, what string) {
	t.Helper()
	for _, a := range s.acts {
		same(t, what+": asked", a.what, "read")
	}
}

// bytesOf are the pages of a shelf as they are now.
func bytesOf(s *shelf) string { return fmt.Sprint(s.held) }

// lay puts a page of these cells there.
func (s *shelf) lay(t *testing.T, page, kind int, cells ...api.Cell) {
	t.Helper()
	b, e := node.Encode(s.engine, kind, cells, s.size)
	if e != api.OK {
		t.Fatalf("no page of %d cells: %d", len(cells), e)
	}
	s.held[page] = b
}

func (s *shelf) leaf(t *testing.T, page int, keys ...string) {
	t.Helper()
	s.lay(t, page, api.PageLeaf, values(keys...)...)
}

func (s *shelf) branch(t *testing.T, page int, leads ...api.Cell) {
	t.Helper()
	s.lay(t, page, api.PageBranch, leads...)
}

// level is a page of a way by the chapter's words: its cells, and the place of the one by which it goes on.
type level struct {
	kind  int
	cells []api.Cell
	at    int
}

// load reads a page by the chapter's words.
func (s *shelf) load(page int) (level, api.Errno) {
	b, is := s.held[page]
	if !is {
		return level{}, api.ErrPage
	}
	engine, kind, cells, e := node.Decode(b)
	if len(b) != s.size || e != api.OK || engine != s.engine || len(cells) == 0 {
		return level{}, api.ErrTree
	}
	return level{kind: kind, cells: cells}, api.OK
}

func firstOf(level) int { return 0 }

func lastOf(l level) int { return len(l.cells) - 1 }

// towards is how the way for a key goes on, in a branch; in a leaf it is the place of the first cell that is not ahead of the key.
func towards(key string) func(l level) int {
	return func(l level) int {
		ahead, notBehind := 0, 0
		for i, c := range l.cells {
			if string(c.Key) < key {
				ahead++
			}
			if string(c.Key) <= key {
				notBehind = i
			}
		}
		if l.kind == api.PageLeaf {
			return ahead
		}
		return notBehind
	}
}

// down goes on from a page, behind a way that leads there.
func (s *shelf) down(way []level, page int, choose func(l level) int) ([]level, api.Errno) {
	way = slices.Clone(way)
	for {
		if len(way) == 40 {
			return nil, api.ErrTree
		}
		l, e := s.load(page)
		if e != api.OK {
			return nil, e
		}
		l.at = choose(l)
		way = append(way, l)
		if l.kind == api.PageLeaf {
			return way, api.OK
		}
		page = l.cells[l.at].Page
	}
}

// beside is the place behind, or ahead: none, if there is none.
func (s *shelf) beside(way []level, by int, choose func(l level) int) ([]level, api.Errno) {
	for i := len(way) - 1; i >= 0; i-- {
		l := way[i]
		l.at += by
		if l.at < 0 || l.at >= len(l.cells) {
			continue
		}
		next := append(slices.Clone(way[:i]), l)
		if l.kind == api.PageLeaf {
			return next, api.OK
		}
		return s.down(next, l.cells[l.at].Page, choose)
	}
	return nil, api.OK
}

// words is a cursor as the chapter's words tell it: the way to where it stands (none: nowhere), and what Err tells.
type words struct {
	s    *shelf
	root int
	way  []level
	err  api.Errno
}

func (w *words) move(way []level, e api.Errno) bool {
	w.way, w.err = way, e
	return len(way) > 0
}

func (w *words) first() bool {
	if w.root == 0 {
		return w.move(nil, api.OK)
	}
	return w.move(w.s.down(nil, w.root, firstOf))
}

func (w *words) last() bool {
	if w.root == 0 {
		return w.move(nil, api.OK)
	}
	return w.move(w.s.down(nil, w.root, lastOf))
}

func (w *words) seek(key string) bool {
	if w.root == 0 {
		return w.move(nil, api.OK)
	}
	way, e := w.s.down(nil, w.root, towards(key))
	if e != api.OK {
		return w.move(nil, e)
	}
	leaf := &way[len(way)-1]
	if leaf.at < len(leaf.cells) {
		return w.move(way, api.OK)
	}
	leaf.at--
	return w.move(w.s.beside(way, 1, firstOf))
}

func (w *words) next() bool {
	if len(w.way) == 0 {
		return false
	}
	return w.move(w.s.beside(w.way, 1, firstOf))
}

func (w *words) prev() bool {
	if len(w.way) == 0 {
		return false
	}
	return w.move(w.s.beside(w.way, -1, lastOf))
}

func (w *words) cell() (api.Cell, api.Errno) {
	if len(w.way) == 0 {
		return api.Cell{}, api.ErrPos
	}
	leaf := w.way[len(w.way)-1]
	return leaf.cells[leaf.at], api.OK
}

// wantScan is what a range tells by the chapter's words, so many at most.
func (s *shelf) wantScan(root int, lo, hi string, reverse bool, most int) []pair {
	if hi != "" && hi <= lo {
		return nil
	}
	w := &words{s: s, root: root}
	switch {
	case !reverse:
		w.seek(lo)
	case hi == "":
		w.last()
	case w.seek(hi):
		w.prev()
	case w.err == api.OK:
		w.last()
	}
	var l []pair
	for len(w.way) > 0 && len(l) < most {
		c, _ := w.cell()
		if !reverse && hi != "" && string(c.Key) >= hi || reverse && string(c.Key) < lo {
			return l
		}
		l = append(l, pair{c: c})
		if reverse {
			w.prev()
		} else {
			w.next()
		}
	}
	if w.err != api.OK && len(l) < most {
		l = append(l, pair{e: w.err})
	}
	return l
}

// twins are a cursor, and beside it the chapter's words.
type twins struct {
	t    *testing.T
	what string
	c    *cursor.Cursor
	w    *words
}

func newTwins(t *testing.T, what string, s *shelf, root int) *twins {
	t.Helper()
	w := &twins{t, what, cursor.New(s, root), &words{s: s, root: root}}
	if w.c == nil {
		t.Fatalf("%s: no cursor", what)
	}
	return w
}

// call makes one of the five, of both.
func (w *twins) call(what, key string) bool {
	w.t.Helper()
	var got, want bool
	switch what {
	case "First":
		got, want = w.c.First(), w.w.first()
	case "Last":
		got, want = w.c.Last(), w.w.last()
	case "Seek":
		got, want = w.c.Seek([]byte(key)), w.w.seek(key)
	case "Next":
		got, want = w.c.Next(), w.w.next()
	case "Prev":
		got, want = w.c.Prev(), w.w.prev()
	default:
		w.t.Fatal("no such call: " + what)
	}
	what = w.what + ": " + what
	if key != "" {
		what += fmt.Sprintf(" %.80q", key)
	}
	same(w.t, what, got, want)
	w.alike(what)
	return want
}

// alike holds Cell and Err, each told twice, against the chapter's words.
func (w *twins) alike(what string) {
	w.t.Helper()
	want, f := w.w.cell()
	for range 2 {
		c, e := w.c.Cell()
		same(w.t, what+": Cell", e, f)
		sameCell(w.t, what+": Cell", c, want)
		same(w.t, what+": Err", w.c.Err(), w.w.err)
	}
}

// at brings both to the cell of a place; they have stood nowhere, or anywhere.
func (w *twins) at(place int) {
	w.t.Helper()
	w.call("First", "")
	for range place {
		w.call("Next", "")
	}
}

// grown is a tree that stands on a shelf, with its keys.
type grown struct {
	what string
	s    *shelf
	root int
	keys []string
}

// shapes are good trees: none, of a leaf, of a branch with leaves, of three and of five levels, each on a shelf of its own.
func shapes(t *testing.T, engine, size int) []grown {
	var l []grown
	for i, lay := range []func(s *shelf) (int, []string){
		func(s *shelf) (int, []string) { return 0, nil },
		func(s *shelf) (int, []string) {
			s.leaf(t, 9, "m")
			return 9, []string{"m"}
		},
		func(s *shelf) (int, []string) {
			s.leaf(t, 300, "b", "c", "da")
			return 300, []string{"b", "c", "da"}
		},
		func(s *shelf) (int, []string) {
			// The bounds are not the keys that stand behind them.
			s.leaf(t, 5, "b", "bb")
			s.leaf(t, 4, "d", "dd", "ddd")
			s.leaf(t, 3, "k", "l")
			s.branch(t, 70, lead("", 5), lead("c", 4), lead("dddd", 3))
			return 70, []string{"b", "bb", "d", "dd", "ddd", "k", "l"}
		},
		func(s *shelf) (int, []string) { return threeLevels(t, s) },
		func(s *shelf) (int, []string) { return manyLevels(t, s, 5) },
	} {
		s := newShelf(engine, size)
		root, keys := lay(s)
		l = append(l, grown{fmt.Sprintf("shape %d, engine %d, %d bytes", i, engine, size), s, root, keys})
	}
	return l
}

func threeLevels(t *testing.T, s *shelf) (int, []string) {
	s.leaf(t, 10, "\x00", "a")
	s.leaf(t, 11, "b", "c", "d", "e")
	s.leaf(t, 12, "f", "g\x00")
	s.leaf(t, 13, "g\x00\x00", "h", "i")
	s.leaf(t, 14, "\xff", "\xff\xff")
	s.branch(t, 20, lead("", 10), lead("b", 11))
	s.branch(t, 21, lead("", 12), lead("g\x00\x00", 13), lead("j", 14))
	s.branch(t, 2, lead("", 20), lead("ee", 21))
	return 2, []string{"\x00", "a", "b", "c", "d", "e", "f", "g\x00", "g\x00\x00", "h", "i", "\xff", "\xff\xff"}
}

// manyLevels is a tree of so many levels in which each page has two cells.
func manyLevels(t *testing.T, s *shelf, levels int) (int, []string) {
	page, keys := 1, []string{}
	var grow func(from, level int) int
	grow = func(from, level int) int {
		page++
		at := page
		if level == 1 {
			two := []string{fmt.Sprintf("%03d", from), fmt.Sprintf("%03d", from+1)}
			keys = append(keys, two...)
			s.leaf(t, at, two...)
			return at
		}
		half := 1 << (level - 1)
		left := grow(from, level-1)
		right := grow(from+half, level-1)
		s.branch(t, at, lead("", left), lead(fmt.Sprintf("%03d", from+half), right))
		return at
	}
	return grow(0, levels), keys
}

// nearKeys are these keys, what stands right beside them, what begins them, and keys far off and longer than any may be.
func nearKeys(keys []string) []string {
	l := []string{"", "\x00", "\xff", strings.Repeat("\xff", 300), strings.Repeat("\x00", 300), long(70000)}
	for _, k := range keys {
		l = append(l, k, k+"\x00", k[:len(k)-1], k+long(300))
		if last := k[len(k)-1]; last > 0 {
			l = append(l, k[:len(k)-1]+string([]byte{last - 1})+"\xff")
		}
	}
	return l
}

// from is how many of the rising keys stand ahead of a key.
func from(keys []string, key string) int {
	n := 0
	for _, k := range keys {
		if k < key {
			n++
		}
	}
	return n
}
