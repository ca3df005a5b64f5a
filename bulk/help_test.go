package bulk_test

import (
	"bytes"
	"fmt"
	"iter"
	"math/rand"
	"slices"
	"strings"
	"testing"

	"espalier/api"
	"espalier/bulk"
	"espalier/ink"
	"espalier/node"
)

func engines() []int { return []int{api.Plain, api.Packed} }

// sizes are all that a page may have.
func sizes() []int { return []int{512, 1024, 2048, 4096, 8192, 16384, 32768, 65536} }

// chance is the same row of numbers in every run.
func chance() *rand.Rand { return rand.New(rand.NewSource(14)) }

func value(key, v string) api.Cell {
	return api.Cell{Key: []byte(key), Kind: api.CellValue, Value: []byte(v)}
}

func spill(key string, page, count int) api.Cell {
	return api.Cell{Key: []byte(key), Kind: api.CellSpill, Page: page, Count: count}
}

func named(key string, page, count int) api.Cell {
	return api.Cell{Key: []byte(key), Kind: api.CellTree, Page: page, Count: count}
}

func lead(key string, page, count int) api.Cell {
	return api.Cell{Key: []byte(key), Kind: api.CellChild, Page: page, Count: count}
}

func row(l ...api.Cell) []api.Cell { return l }

// long is a text of n bytes.
func long(n int) string { return strings.Repeat("x", n) }

// values are cells with these keys and values of 92 bytes: on pages of 512 bytes three of them are above the fill 128.
func values(keys ...string) []api.Cell {
	var l []api.Cell
	for i, k := range keys {
		l = append(l, value(k, strings.Repeat(string(rune('A'+i%26)), 92)))
	}
	return l
}

// numbered are n cells whose keys are a beginning and a number of two bytes.
func numbered(n int, begin, v string) []api.Cell {
	var l []api.Cell
	for i := range n {
		l = append(l, value(begin+string([]byte{byte(i >> 8), byte(i)}), v))
	}
	return l
}

func same[T comparable](t *testing.T, what string, got, want T) {
	if got != want {
		t.Helper()
		t.Errorf("%s: %v, want %v", what, got, want)
	}
}

func sameList[T comparable](t *testing.T, what string, got, want []T) {
	if !slices.Equal(got, want) {
		t.Helper()
		t.Errorf("%s: %v, want %v", what, got, want)
	}
}

func alike(a, b api.Cell) bool {
	return a.Kind == b.Kind && a.Page == b.Page && a.Count == b.Count && bytes.Equal(a.Key, b.Key) && bytes.Equal(a.Value, b.Value)
}

func sameCells(t *testing.T, what string, got, want []api.Cell) {
	t.Helper()
	if len(got) != len(want) {
		t.Errorf("%s: %d cells, want %d", what, len(got), len(want))
		return
	}
	for i := range got {
		if !alike(got[i], want[i]) {
			t.Errorf("%s: cell %d: %+v, want %+v", what, i, got[i], want[i])
			return
		}
	}
}

// cloned is cells in memory of their own.
func cloned(cells []api.Cell) []api.Cell {
	l := slices.Clone(cells)
	for i := range l {
		l[i].Key, l[i].Value = bytes.Clone(l[i].Key), bytes.Clone(l[i].Value)
	}
	return l
}

// teller tells cells, and counts.
type teller struct {
	cells []api.Cell
	began int  // how often a range over it began
	told  int  // how many cells it has told
	left  bool // a range was left early
}

func (l *teller) all() iter.Seq[api.Cell] {
	return func(yield func(api.Cell) bool) {
		l.began++
		for _, c := range l.cells {
			l.told++
			if !yield(c) {
				l.left = true
				return
			}
		}
	}
}

// An error that no other part of these tests tells.
const ofTheRoom = api.ErrViews

// act is something that a room was asked.
type act struct {
	what string
	n    int
}

// shelf is a room of which a test sees and sets all. It keeps what it is given, so that whoever shares it is seen.
type shelf struct {
	engine, size int
	spare        int // how many pages it says that there are
	held         map[int][]byte
	pick         func() int // the next page
	acts         []act      // but Engine and Size
	fail         int        // the number of the act that is refused, from 0 on; below 0: none
}

func newShelf(engine, size, spare int) *shelf {
	return &shelf{engine: engine, size: size, spare: spare, held: map[int][]byte{}, pick: rising(2), fail: -1}
}

// rising hands out pages from n on; falling from n on the other way.
func rising(n int) func() int {
	return func() int {
		n++
		return n - 1
	}
}

func falling(n int) func() int {
	return func() int {
		n--
		return n + 1
	}
}

// scattered hands out pages of short and long numbers in no order, none twice.
func scattered(r *rand.Rand) func() int {
	was := map[int]bool{}
	return func() int {
		for {
			n := 2 + r.Intn([]int{126, 300, 16382, 20000, 65534}[r.Intn(5)])
			if !was[n] {
				was[n] = true
				return n
			}
		}
	}
}

func (s *shelf) refuses(what string, n int) bool {
	s.acts = append(s.acts, act{what, n})
	return s.fail == len(s.acts)-1
}

func (s *shelf) Engine() int { return s.engine }

func (s *shelf) Size() int { return s.size }

func (s *shelf) Read(n int) ([]byte, api.Errno) {
	s.refuses("read", n)
	b, is := s.held[n]
	if !is {
		return nil, api.ErrPage
	}
	return b, api.OK
}

func (s *shelf) Alloc() (int, api.Errno) {
	n := s.pick()
	if s.refuses("alloc", n) {
		return n, ofTheRoom
	}
	s.held[n] = make([]byte, s.size)
	return n, api.OK
}

func (s *shelf) Write(n int, b []byte) api.Errno {
	if s.refuses("write", n) {
		return ofTheRoom
	}
	if s.held[n] == nil {
		return api.ErrPage
	}
	if len(b) != s.size {
		return api.ErrSize
	}
	s.held[n] = b
	return api.OK
}

func (s *shelf) Free(n int) api.Errno {
	s.refuses("free", n)
	delete(s.held, n)
	return api.OK
}

func (s *shelf) Fresh(n int) bool {
	s.refuses("fresh", n)
	return s.held[n] != nil
}

func (s *shelf) Spare(n int) bool {
	s.refuses("spare", n)
	return n <= s.spare
}

// asked tells the numbers with which that was asked, in order.
func (s *shelf) asked(what string) []int {
	var l []int
	for _, a := range s.acts {
		if a.what == what {
			l = append(l, a.n)
		}
	}
	return l
}

// cells are those of a page, and its kind.
func (s *shelf) cells(t *testing.T, page int) (int, []api.Cell) {
	t.Helper()
	engine, kind, cells, e := node.Decode(s.held[page])
	if e != api.OK || engine != s.engine || len(s.held[page]) != s.size {
		t.Fatalf("page %d is none: %d", page, e)
	}
	return kind, cells
}

// wantedPage is a page as the chapter's words tell it: its cells (of a branch with the places of pages in the list of all, instead of their numbers), and what lies below it.
type wantedPage struct {
	kind            int
	cells           []api.Cell
	least, greatest []byte
	count           int
}

// stood is a run of cells as they stand in a page of that kind where Fill and Fits are asked.
func stood(kind int, run []api.Cell) []api.Cell {
	l := slices.Clone(run)
	if kind == api.PageBranch {
		l[0].Key = nil
		for i := range l {
			l[i].Page = 65535
		}
	}
	return l
}

// runOf is how many cells the next page takes, cell after cell by the chapter's words.
func runOf(engine, kind int, row []api.Cell, page, fill int) int {
	n := min(2, len(row))
	for n < len(row) {
		with := stood(kind, row[:n+1])
		if node.Fill(engine, kind, with, page) > fill || !node.Fits(engine, kind, with, page) {
			break
		}
		n++
	}
	if len(row)-n == 1 && n >= 3 {
		return n - 1
	}
	if len(row)-n == 1 && n == 2 {
		return 3
	}
	return n
}

// wanted is the pages of the tree of these cells by the chapter's words, in the order in which they are laid.
func wanted(engine, page, fill int, cells []api.Cell) []wantedPage {
	var all []wantedPage
	for row := cells; len(row) > 0; {
		n := runOf(engine, api.PageLeaf, row, page, fill)
		all = append(all, wantedPage{api.PageLeaf, row[:n], row[0].Key, row[n-1].Key, n})
		row = row[n:]
	}
	for from, to := 0, len(all); to-from > 1; from, to = to, len(all) {
		row := wantedRow(all, from, to)
		for at := from; at < to; {
			n := runOf(engine, api.PageBranch, row, page, fill)
			p := wantedPage{api.PageBranch, slices.Clone(row[:n]), all[at].least, all[at+n-1].greatest, 0}
			p.cells[0].Key = nil
			for _, c := range p.cells {
				p.count += c.Count
			}
			all = append(all, p)
			row, at = row[n:], at+n
		}
	}
	return all
}

// wantedRow is the cells that lead to the pages from one place of the list to another.
func wantedRow(all []wantedPage, from, to int) []api.Cell {
	var row []api.Cell
	for at := from; at < to; at++ {
		c := lead("", at, all[at].count)
		if at > from {
			c.Key, _ = ink.Between(all[at-1].greatest, all[at].least)
		}
		row = append(row, c)
	}
	return row
}

// builds holds Build and Need of cells that rise against the chapter's words: what they answer, which pages there are, what the room was asked. It tells the room and the root.
func builds(t *testing.T, what string, s *shelf, cells []api.Cell, fill int) int {
	t.Helper()
	what = fmt.Sprintf("%s, engine %d, %d bytes, fill %d, %d cells", what, s.engine, s.size, fill, len(cells))
	want := wanted(s.engine, s.size, fill, cells)
	need, e := bulk.Need(s.engine, s.size, fill, cells)
	same(t, what+": Need", e, api.OK)
	same(t, what+": Need", need, len(want))
	s.spare = len(want)
	told := &teller{cells: cells}
	root, n, e := bulk.Build(s, told.all(), fill)
	same(t, what+": Build", e, api.OK)
	same(t, what+": how many", n, len(cells))
	same(t, what+": ranges over the cells", told.began, 1)
	same(t, what+": cells told", told.told, len(cells))
	same(t, what+": left early", told.left, false)
	s.hasPages(t, what, want, root)
	if t.Failed() {
		t.FailNow()
	}
	return root
}

// hasPages holds what the room has, and what it was asked, against the wanted pages.
func (s *shelf) hasPages(t *testing.T, what string, want []wantedPage, root int) {
	t.Helper()
	pages := s.asked("alloc")
	acts := []act{{"spare", len(want)}}
	for _, page := range pages {
		acts = append(acts, act{"alloc", page}, act{"write", page})
	}
	sameList(t, what+": what the room was asked", s.acts, acts)
	if len(pages) != len(want) {
		t.Fatalf("%s: %d pages, want %d", what, len(pages), len(want))
	}
	for i, p := range want {
		cells := slices.Clone(p.cells)
		for at := range cells {
			if p.kind == api.PageBranch {
				cells[at].Page = pages[cells[at].Page]
			}
		}
		kind, got := s.cells(t, pages[i])
		same(t, fmt.Sprintf("%s: kind of page %d", what, i), kind, p.kind)
		sameCells(t, fmt.Sprintf("%s: page %d", what, i), got, cells)
	}
	if len(want) == 0 {
		same(t, what+": the root", root, 0)
		return
	}
	same(t, what+": the root", root, pages[len(pages)-1])
}

// runs are how many cells the pages have, in the order in which they were taken, level by level: "4 2; 2".
func (s *shelf) runs(t *testing.T) string {
	t.Helper()
	text, below, led, here := "", 0, 0, 0
	for _, page := range s.asked("alloc") {
		kind, cells := s.cells(t, page)
		if kind == api.PageBranch && led == below {
			// All pages below are led to: this is the first one of a new level.
			text, below, led, here = text+";", here, 0, 0
		}
		text += fmt.Sprint(" ", len(cells))
		here++
		if kind == api.PageBranch {
			led += len(cells)
		}
	}
	return strings.TrimSpace(text)
}
