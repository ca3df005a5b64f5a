package cursor_test

import (
	"bytes"
	"fmt"
	"math"
	"math/rand"
	"testing"

	"espalier/api"
	"espalier/cursor"
	"espalier/free"
	"espalier/meta"
	"espalier/node"
	spilled "espalier/spill"
)

// noPages are bytes that are no page at which a cursor of that engine and size can stand, or go on.
func noPages(t *testing.T, engine, size int) map[string][]byte {
	page := func(engine, kind, size int, cells ...api.Cell) []byte {
		b, e := node.Encode(engine, kind, cells, size)
		if e != api.OK {
			t.Fatalf("no page: %d", e)
		}
		return b
	}
	good := page(engine, api.PageLeaf, size, value("k", "v"))
	turned := bytes.Clone(good)
	turned[size/2] ^= 1
	chain, _ := spilled.Encode(0, []byte("k"), size)
	list, _ := free.Encode(0, []int{7}, size)
	head, _ := meta.Encode(api.Meta{Engine: engine, Page: size, High: 2})
	return map[string][]byte{
		"nothing": nil, "one byte": {2}, "zeros": make([]byte, size), "bytes FF": bytes.Repeat([]byte{0xff}, size), "a byte turned": turned,
		"a byte less": good[:size-1], "a byte more": append(bytes.Clone(good), 0), "half of it": good[:size/2], "twice": append(bytes.Clone(good), good...),
		"a page of twice as many bytes":       page(engine, api.PageLeaf, 2*size, value("k", "v")),
		"a branch of twice as many bytes":     page(engine, api.PageBranch, 2*size, lead("", 5), lead("l", 6)),
		"a leaf of the other engine":          page(3-engine, api.PageLeaf, size, value("k", "v")),
		"a branch of the other engine":        page(3-engine, api.PageBranch, size, lead("", 5), lead("l", 6)),
		"a leaf without a cell":               page(engine, api.PageLeaf, size),
		"a branch without a cell":             page(engine, api.PageBranch, size),
		"an empty leaf of the other engine":   page(3-engine, api.PageLeaf, size),
		"an empty branch of the other engine": page(3-engine, api.PageBranch, size),
		"a page of a chain":                   chain,
		"a page of a list":                    list,
		"a meta page":                         head,
		"a leaf with the other engine's byte": append([]byte{2, byte(3 - engine)}, good[2:]...),
		"a leaf with the engine 0":            append([]byte{2, 0}, good[2:]...),
	}
}

// fails holds calls of a cursor against an error, which is met by the last of them: it stands nowhere then, and stays there.
func fails(t *testing.T, what string, r api.Room, root int, want api.Errno, calls ...func(c *cursor.Cursor) bool) {
	t.Helper()
	c := cursor.New(r, root)
	last := len(calls) - 1
	for i, call := range calls {
		same(t, what+": the answer", call(c), i < last)
		if i < last {
			same(t, what+": Err on the way", c.Err(), api.OK)
		}
	}
	for range 2 {
		cell, e := c.Cell()
		same(t, what+": Cell", e, api.ErrPos)
		sameCell(t, what+": the cell beside the error", cell, api.Cell{})
		same(t, what+": Err", c.Err(), want)
		same(t, what+": Next from nowhere", c.Next(), false)
		same(t, what+": Err behind it", c.Err(), want)
		same(t, what+": Prev from nowhere", c.Prev(), false)
		same(t, what+": Err behind it", c.Err(), want)
	}
}

// seek is a Seek of that key.
func seek(key string) func(c *cursor.Cursor) bool {
	return func(c *cursor.Cursor) bool { return c.Seek([]byte(key)) }
}

func first(c *cursor.Cursor) bool { return c.First() }

func last(c *cursor.Cursor) bool { return c.Last() }

func next(c *cursor.Cursor) bool { return c.Next() }

func prev(c *cursor.Cursor) bool { return c.Prev() }

// metByAll holds an error of the page 9 against all calls that can meet it: as a root, at the first and at the last place of a branch, in the midst, and further down.
func metByAll(t *testing.T, what string, s *shelf, want api.Errno) {
	t.Helper()
	s.leaf(t, 5, "a", "b")
	s.leaf(t, 6, "x", "y")
	for name, call := range map[string]func(c *cursor.Cursor) bool{"First": first, "Last": last, "Seek": seek("k"), "Seek of no byte": seek("")} {
		fails(t, what+": "+name+" of it as a root", s, 9, want, call)
	}
	s.branch(t, 2, lead("", 9), lead("x", 6))
	s.branch(t, 3, lead("", 5), lead("k", 9))
	s.branch(t, 4, lead("", 5), lead("k", 9), lead("x", 6))
	s.branch(t, 10, lead("", 2))
	s.branch(t, 11, lead("", 5), lead("k", 2))
	s.branch(t, 12, lead("", 3), lead("x", 6))
	for _, root := range []int{2, 10} {
		at := fmt.Sprintf("%s, first below %d", what, root)
		fails(t, at+": First", s, root, want, first)
		fails(t, at+": Seek", s, root, want, seek("k"))
		fails(t, at+": Seek of no byte", s, root, want, seek(""))
		fails(t, at+": Prev", s, root, want, last, prev, prev)
		fails(t, at+": Prev behind Seek", s, root, want, seek("x"), prev)
		fails(t, at+": Prev behind Next", s, root, want, seek("x"), next, prev, prev)
		same(t, at+": Scan", told(s, root, "", "", false), fmt.Sprint(int(want)))
		same(t, at+": Scan, reverse", told(s, root, "", "", true), fmt.Sprint("y x ", int(want)))
		same(t, at+": Scan ahead", told(s, root, "", "k", true), fmt.Sprint(int(want)))
		same(t, at+": Scan beside it", told(s, root, "x", "z", false), "x y")
	}
	fails(t, what+", last: Last", s, 3, want, last)
	fails(t, what+", last: Seek", s, 3, want, seek("z"))
	fails(t, what+", last: Seek behind a leaf", s, 3, want, seek("c"))
	fails(t, what+", last: Next", s, 3, want, first, next, next)
	same(t, what+", last: Scan", told(s, 3, "", "", false), fmt.Sprint("a b ", int(want)))
	same(t, what+", last: Scan, reverse", told(s, 3, "", "", true), fmt.Sprint(int(want)))
	same(t, what+", last: Scan up to it", told(s, 3, "", "c", false), fmt.Sprint("a b ", int(want)))
	same(t, what+", last: Scan up to a cell ahead of it", told(s, 3, "", "b", false), "a")
	same(t, what+", last: Scan from ahead of it, reverse", told(s, 3, "", "b", true), "a")
	same(t, what+", last: Scan from behind all of a leaf, reverse", told(s, 3, "", "c", true), fmt.Sprint(int(want)))
	for _, root := range []int{4, 11, 12} {
		at := fmt.Sprintf("%s, between, below %d", what, root)
		fails(t, at+": Next", s, root, want, first, next, next)
		fails(t, at+": Prev", s, root, want, last, prev, prev)
		fails(t, at+": Seek", s, root, want, seek("k"))
		fails(t, at+": Seek behind a leaf", s, root, want, seek("c"))
		same(t, at+": Scan", told(s, root, "", "", false), fmt.Sprint("a b ", int(want)))
		same(t, at+": Scan, reverse", told(s, root, "", "", true), fmt.Sprint("y x ", int(want)))
	}
	s.justRead(t, what)
}

// P13.2 to P13.5: a page that cannot be read.
func TestPagesThatAreNotThere(t *testing.T) {
	for _, engine := range engines() {
		s := newShelf(engine, 512)
		metByAll(t, "no page", s, api.ErrPage)
		for _, root := range []int{7, 1, -1, 65535, 65536, 1 << 40, math.MinInt, math.MaxInt} {
			for name, call := range map[string]func(c *cursor.Cursor) bool{"First": first, "Last": last, "Seek": seek("k")} {
				fails(t, fmt.Sprint(name, " of ", root), s, root, api.ErrPage, call)
			}
			same(t, fmt.Sprint("Scan of ", root), told(s, root, "", "", false), "30")
			same(t, fmt.Sprint("Scan of ", root, ", reverse"), told(s, root, "", "", true), "30")
			same(t, fmt.Sprint("Scan of ", root, ", reverse, ahead of a key"), told(s, root, "", "k", true), "30")
		}
	}
}

// P13.2 to P13.5: pages that are none of a tree, and leaves without a cell.
func TestPagesThatAreNone(t *testing.T) {
	for _, engine := range engines() {
		for _, size := range []int{512, 4096, 32768} {
			for what, b := range noPages(t, engine, size) {
				s := newShelf(engine, size)
				s.held[9] = b
				metByAll(t, what, s, api.ErrTree)
			}
		}
	}
}

// P13.2 to P13.5: a branch that leads to itself, and a ring.
func TestRings(t *testing.T) {
	for _, engine := range engines() {
		s := newShelf(engine, 512)
		s.branch(t, 9, lead("", 9))
		metByAll(t, "to itself", s, api.ErrTree)
		s.branch(t, 9, lead("", 9), lead("b", 9), lead("m", 9))
		metByAll(t, "to itself by all its cells", s, api.ErrTree)
		s.branch(t, 9, lead("", 30))
		s.branch(t, 30, lead("", 31), lead("c", 9))
		s.branch(t, 31, lead("", 9))
		metByAll(t, "a ring", s, api.ErrTree)
	}
}

// P13.2 to P13.5: a ring that has cells beside it: they are told each time that the way comes by.
func TestRingsWithCells(t *testing.T) {
	for _, engine := range engines() {
		s := newShelf(engine, 512)
		s.leaf(t, 5, "a", "b")
		s.branch(t, 2, lead("", 5), lead("c", 2))
		c := cursor.New(s, 2)
		n := 0
		for is := c.First(); is; is = c.Next() {
			same(t, "Cell", stands(c), []string{"a", "b"}[n%2])
			n++
		}
		// Leaves at the depths 2 to 40.
		same(t, "cells", n, 2*39)
		same(t, "Err", c.Err(), api.ErrTree)
		l := scanned(s, 2, "", "", false, 1000)
		same(t, "Scan", len(l), 2*39+1)
		same(t, "Scan: the last", l[len(l)-1].e, api.ErrTree)
		fails(t, "Last", s, 2, api.ErrTree, last)
		fails(t, "Seek", s, 2, api.ErrTree, seek("c"))
		same(t, "Scan, reverse", told(s, 2, "", "", true), "120")
		// The other way round.
		s.branch(t, 3, lead("", 3), lead("c", 5))
		n, c = 0, cursor.New(s, 3)
		for is := c.Last(); is; is = c.Prev() {
			same(t, "Cell", stands(c), []string{"b", "a"}[n%2])
			n++
		}
		same(t, "cells", n, 2*39)
		same(t, "Err", c.Err(), api.ErrTree)
		fails(t, "First", s, 3, api.ErrTree, first)
		fails(t, "Seek", s, 3, api.ErrTree, seek("b"))
		same(t, "Scan", told(s, 3, "", "", false), "120")
		same(t, "Scan from c", told(s, 3, "c", "", false), "")
	}
}

// chain lays branches of one cell each, from a page on, and a leaf with that key behind them: a way of so many pages.
func chain(t *testing.T, s *shelf, from, pages int, key string) {
	for n := from; n < from+pages-1; n++ {
		s.branch(t, n, lead("", n+1))
	}
	s.leaf(t, from+pages-1, key)
}

// P13.2 to P13.5: ways of 40 pages, and of more, met by all five; of the 41st it does not matter what it is.
func TestLongWays(t *testing.T) {
	for _, engine := range engines() {
		for _, pages := range []int{1, 2, 38, 39, 40, 41, 42, 43, 80} {
			for _, lost := range []bool{false, true} {
				s := newShelf(engine, 512)
				what := fmt.Sprintf("a way of %d pages", pages)
				chain(t, s, 100, pages, "k")
				// A page more than the chain of its own.
				s.leaf(t, 5, "a", "b")
				s.leaf(t, 6, "x", "y")
				s.branch(t, 2, lead("", 5), lead("k", 101), lead("x", 6))
				if lost {
					if pages <= 40 {
						continue
					}
					delete(s.held, 140)
				}
				longWay(t, what, s, pages <= 40)
			}
		}
	}
}

func longWay(t *testing.T, what string, s *shelf, isGood bool) {
	t.Helper()
	calls := map[string][]func(c *cursor.Cursor) bool{"First": {first}, "Last": {last}, "Seek": {seek("k")}, "Seek of no byte": {seek("")}}
	for name, call := range calls {
		if !isGood {
			fails(t, what+": "+name, s, 100, api.ErrTree, call...)
			continue
		}
		c := cursor.New(s, 100)
		same(t, what+": "+name, call[0](c), true)
		same(t, what+": "+name, stands(c), "k")
		same(t, what+": Next", c.Next(), false)
		same(t, what+": Err", c.Err(), api.OK)
	}
	if _, is := s.held[101]; !is {
		return
	}
	// Page 2 stands in the place of page 100, so that the way has as many pages.
	if !isGood {
		fails(t, what+": Next", s, 2, api.ErrTree, first, next, next)
		fails(t, what+": Prev", s, 2, api.ErrTree, last, prev, prev)
		fails(t, what+": Seek behind a leaf", s, 2, api.ErrTree, seek("c"))
		fails(t, what+": Seek", s, 2, api.ErrTree, seek("l"))
		same(t, what+": Scan", told(s, 2, "", "", false), "a b 120")
		same(t, what+": Scan, reverse", told(s, 2, "", "", true), "y x 120")
		return
	}
	same(t, what+": Scan", told(s, 2, "", "", false), "a b k x y")
	same(t, what+": Scan, reverse", told(s, 2, "", "", true), "y x k b a")
	w := newTwins(t, what, s, 2)
	for _, call := range []string{"First", "Next", "Next", "Next", "Prev", "Prev", "Next", "Next", "Next", "Next", "Last", "Prev", "Prev", "Prev", "Prev", "Prev"} {
		w.call(call, "")
	}
}

// R5: where several errors would do it is the one of the page that is read first; the room's error goes ahead of ErrTree.
func TestWhichErrorIsFirst(t *testing.T) {
	for _, engine := range engines() {
		s := newShelf(engine, 512)
		s.leaf(t, 5, "a", "b")
		s.held[9] = make([]byte, 512)
		s.lay(t, 10, api.PageLeaf)
		for _, x := range []struct {
			what        string
			leads       []api.Cell
			first, last api.Errno
		}{
			{"lost, none", row(lead("", 50), lead("b", 9)), api.ErrPage, api.ErrTree},
			{"none, lost", row(lead("", 9), lead("b", 50)), api.ErrTree, api.ErrPage},
			{"empty, lost", row(lead("", 10), lead("b", 50)), api.ErrTree, api.ErrPage},
			{"lost, empty", row(lead("", 50), lead("b", 10)), api.ErrPage, api.ErrTree},
			{"lost below, none", row(lead("", 20), lead("b", 9)), api.ErrPage, api.ErrTree},
			{"the root, lost", row(lead("", 2), lead("b", 50)), api.ErrTree, api.ErrPage},
		} {
			s.branch(t, 20, lead("", 50), lead("b", 9))
			s.branch(t, 2, x.leads...)
			fails(t, x.what+": First", s, 2, x.first, first)
			fails(t, x.what+": Last", s, 2, x.last, last)
			fails(t, x.what+": Seek(a)", s, 2, x.first, seek("a"))
			fails(t, x.what+": Seek(c)", s, 2, x.last, seek("c"))
		}
		// A lost page at the end of a way of 40; the same as a 41st one is not read.
		chain(t, s, 100, 41, "k")
		delete(s.held, 139)
		fails(t, "the 40th is lost", s, 100, api.ErrPage, first)
		fails(t, "the 40th is lost", s, 100, api.ErrPage, last)
		fails(t, "the 40th is lost", s, 100, api.ErrPage, seek("k"))
		chain(t, s, 100, 41, "k")
		delete(s.held, 140)
		fails(t, "the 41st is lost", s, 100, api.ErrTree, first)
		fails(t, "the 41st is lost", s, 100, api.ErrTree, last)
		fails(t, "the 41st is lost", s, 100, api.ErrTree, seek("k"))
	}
}

// P13.2 to P13.5: an error of the room at each of its reads is handed on; behind it Err is OK again.
func TestErrorsOfTheRoom(t *testing.T) {
	for _, engine := range engines() {
		for _, g := range shapes(t, engine, 512)[1:] {
			for _, reverse := range []bool{false, true} {
				g.s.acts, g.s.fail = nil, -1
				all := scanned(g.s, g.root, "", "", reverse, 1000)
				for n := range len(g.s.acts) {
					g.s.acts, g.s.fail = nil, n
					l := scanned(g.s, g.root, "", "", reverse, 1000)
					what := fmt.Sprintf("%s: Scan with read %d refused", g.what, n)
					k := len(l) - 1
					samePairs(t, what, l[:k], all[:k])
					same(t, what, l[k].e, ofTheRoom)
					sameCell(t, what, l[k].c, api.Cell{})
				}
			}
			g.s.acts, g.s.fail = nil, 0
			c := cursor.New(g.s, g.root)
			same(t, g.what+": First", c.First(), false)
			same(t, g.what+": Err", c.Err(), ofTheRoom)
			same(t, g.what+": Cell", stands(c), "130")
			same(t, g.what+": Next", c.Next(), false)
			same(t, g.what+": Err", c.Err(), ofTheRoom)
			same(t, g.what+": Last", c.Last(), true)
			same(t, g.what+": Err", c.Err(), api.OK)
			g.s.fail = -1
		}
	}
}

// P13.4: Err behind a call that met an error, and behind the next one that met none, whichever it is.
func TestErrIsTheLastCalls(t *testing.T) {
	for _, engine := range engines() {
		s := newShelf(engine, 512)
		s.leaf(t, 5, "a", "b")
		s.branch(t, 2, lead("", 5), lead("k", 9))
		bad := map[string]func(c *cursor.Cursor) bool{"Last": last, "Seek": seek("k"), "Seek behind": seek("c"), "Next": func(c *cursor.Cursor) bool { return c.First() && c.Next() && c.Next() }}
		good := map[string]func(c *cursor.Cursor) bool{"First": first, "Seek": seek("b")}
		for before, spoil := range bad {
			for then, call := range good {
				c := cursor.New(s, 2)
				for range 2 {
					same(t, before, spoil(c), false)
					same(t, before+": Err", c.Err(), api.ErrPage)
					same(t, before+": Cell", stands(c), "130")
					same(t, then, call(c), true)
					same(t, then+": Err", c.Err(), api.OK)
				}
				same(t, "Prev", c.Prev(), then == "Seek")
				same(t, "Err", c.Err(), api.OK)
			}
		}
		// A call that finds no place, without an error, wipes Err too.
		s.branch(t, 2, lead("", 9), lead("k", 5))
		c := cursor.New(s, 2)
		same(t, "First", c.First(), false)
		same(t, "Err", c.Err(), api.ErrPage)
		same(t, "Seek", c.Seek([]byte("z")), false)
		same(t, "Err", c.Err(), api.OK)
		same(t, "Last", c.Last(), true)
		same(t, "Next", c.Next(), false)
		same(t, "Err", c.Err(), api.OK)
	}
}

// P13.2 to P13.5: keys and levels that are not those of a good tree are taken as they stand.
func TestTreesThatAreNotGood(t *testing.T) {
	for _, engine := range engines() {
		s := newShelf(engine, 512)
		s.leaf(t, 3, "a", "b")
		s.leaf(t, 4, "k")
		// A first key that is not empty: what stands ahead of it goes there all the same.
		s.branch(t, 5, lead("b", 3), lead("c", 4))
		c := cursor.New(s, 5)
		same(t, "Seek ahead of all bounds", c.Seek([]byte("a")), true)
		same(t, "Seek ahead of all bounds", stands(c), "a")
		// Branches of one cell, leaves at unlike depths.
		s.branch(t, 6, lead("", 4))
		s.branch(t, 8, lead("", 3), lead("d", 6), lead("m", 3))
		same(t, "unlike depths", told(s, 8, "", "", false), "a b k a b")
		same(t, "unlike depths, reverse", told(s, 8, "", "", true), "b a k b a")
		// Keys beyond their bounds: a range ends at the first that is not within.
		s.branch(t, 9, lead("", 4), lead("c", 3))
		same(t, "keys that fall", told(s, 9, "", "", false), "k a b")
		same(t, "up to c", told(s, 9, "", "c", false), "")
		same(t, "up to l", told(s, 9, "", "l", false), "k a b")
		same(t, "from b on, reverse", told(s, 9, "b", "", true), "b")
		same(t, "from c on", told(s, 9, "c", "", false), "")
		same(t, "ahead of c, reverse: there is no cell behind it, so from the last on", told(s, 9, "", "c", true), "b a k")
		w := newTwins(t, "keys that fall", s, 9)
		for _, key := range nearKeys([]string{"a", "b", "c", "k"}) {
			w.call("Seek", key)
			w.call("Next", "")
			w.call("Prev", "")
		}
		// One leaf at two places: it is told at each.
		s.branch(t, 10, lead("", 3), lead("c", 3), lead("d", 3))
		same(t, "a leaf thrice", told(s, 10, "", "", false), "a b a b a b")
		same(t, "a leaf thrice, reverse", told(s, 10, "", "", true), "b a b a b a")
	}
}

// anyShelf is a shelf on which pages of all sorts lead to each other at will.
func anyShelf(t *testing.T, r *rand.Rand) *shelf {
	s := newShelf(1+r.Intn(2), 512)
	pages := 3 + r.Intn(10)
	key := func(i int) string { return []string{"", "a", "b", "ba", "c", "m", "ma", "mb", "z"}[i] }
	for n := 2; n < 2+pages; n++ {
		kind := api.PageLeaf + r.Intn(2)
		// Mostly to pages behind this one, so that not all is rings.
		to := func() int { return min(n+1+r.Intn(4), pages+2) }
		if r.Intn(6) == 0 {
			to = func() int { return 2 + r.Intn(pages+1) }
		}
		var cells []api.Cell
		for i := range 9 {
			switch {
			case r.Intn(3) > 0 || i == 0 && kind == api.PageLeaf:
			case kind == api.PageLeaf:
				cells = append(cells, value(key(i), "v"))
			default:
				cells = append(cells, lead(key(i), to()))
			}
		}
		switch r.Intn(40) {
		case 0:
			s.held[n] = make([]byte, 512-r.Intn(2))
		case 1:
			s.engine = 3 - s.engine
			s.lay(t, n, api.PageLeaf, value("k", ""))
			s.engine = 3 - s.engine
		default:
			s.lay(t, n, kind, cells...)
		}
	}
	return s
}

func anyKeys() []string {
	return []string{"", "\x00", "a", "aa", "b", "ba", "bz", "c", "d", "m", "ma", "mab", "mb", "n", "z", "zz"}
}

// P13.2 to P13.5: pages tied at will, all five in any order, and ranges, beside the chapter's words.
func TestAnyPages(t *testing.T) {
	r := chance()
	keys, calls := anyKeys(), []string{"First", "Last", "Seek", "Next", "Next", "Next", "Prev", "Prev", "Prev"}
	moves, ends := map[string]int{}, map[api.Errno]int{}
	for step := range 3000 {
		s := anyShelf(t, r)
		for root := range 15 {
			what := fmt.Sprintf("step %d, root %d", step, root)
			w := newTwins(t, what, s, root)
			for range 12 {
				call, key := calls[r.Intn(len(calls))], ""
				if call == "Seek" {
					key = keys[r.Intn(len(keys))]
				}
				stood := len(w.w.way) > 0
				is := w.call(call, key)
				if stood || call != "Next" && call != "Prev" {
					moves[fmt.Sprintf("%s %v %d", call, is, w.w.err)]++
				}
			}
			lo, hi, reverse := keys[r.Intn(len(keys))], keys[r.Intn(len(keys))], r.Intn(2) == 0
			got := scanned(s, root, lo, hi, reverse, 30)
			samePairs(t, what+": Scan", got, s.wantScan(root, lo, hi, reverse, 30))
			if len(got) > 0 {
				ends[got[len(got)-1].e]++
			}
			s.justRead(t, what)
			s.acts = nil
			if t.Failed() {
				return
			}
		}
	}
	for _, e := range []api.Errno{api.OK, api.ErrTree, api.ErrPage} {
		if ends[e] < 200 {
			t.Errorf("ranges that end with %d: %d", e, ends[e])
		}
	}
	for _, call := range []string{"First", "Last", "Seek", "Next", "Prev"} {
		for _, end := range []string{" true 0", " false 0", " false 30", " false 120"} {
			if moves[call+end] < 50 {
				t.Errorf("%s came %d times", call+end, moves[call+end])
			}
		}
	}
}
