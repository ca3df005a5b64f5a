package cursor_test

import (
	"fmt"
	"math"
	"slices"
	"testing"

	"espalier/api"
	"espalier/cursor"
)

// P13.1: a cursor of any root stands nowhere; nothing is asked of the room.
func TestNew(t *testing.T) {
	same(t, "no room", cursor.New(nil, 2) == nil, true)
	same(t, "no room, no root", cursor.New(nil, 0) == nil, true)
	var none api.Room
	same(t, "a room that is nil", cursor.New(none, 2) == nil, true)
	var bench *api.Bench
	same(t, "a room that holds nil is no nil", cursor.New(bench, 2) == nil, false)
	for _, engine := range engines() {
		s := newShelf(engine, 512)
		s.leaf(t, 2, "a")
		for _, root := range []int{0, 1, 2, 3, -1, 65535, 65536, math.MinInt, math.MaxInt} {
			c := cursor.New(s, root)
			same(t, "a cursor", c != nil, true)
			same(t, "Cell", stands(c), "130")
			same(t, "Err", c.Err(), api.OK)
			same(t, "Next", c.Next(), false)
			same(t, "Prev", c.Prev(), false)
			same(t, "Err", c.Err(), api.OK)
			same(t, "Cell", stands(c), "130")
			same(t, "asked", len(s.acts), 0)
		}
	}
}

// P13.2, P13.4: of the root 0 it stands nowhere, and nothing is read.
func TestTheRoot0(t *testing.T) {
	for _, engine := range engines() {
		s := newShelf(engine, 512)
		s.leaf(t, 0, "a")
		w := newTwins(t, "the root 0", s, 0)
		for _, what := range []string{"First", "Next", "Last", "Prev", "Seek", "Next", "Prev"} {
			same(t, what, w.call(what, ""), false)
		}
		for _, key := range nearKeys([]string{"a"}) {
			same(t, "Seek", w.call("Seek", key), false)
		}
		for _, lo := range []string{"", "a", "b"} {
			for _, hi := range []string{"", "a", "b"} {
				same(t, "Scan", told(s, 0, lo, hi, false), "")
				same(t, "Scan, reverse", told(s, 0, lo, hi, true), "")
			}
		}
		same(t, "asked", len(s.acts), 0)
	}
}

// P13.2 to P13.4, P13.6: from each place of each shape, all five, beside the chapter's words and beside the list of keys.
func TestMovesFromEachPlace(t *testing.T) {
	for _, engine := range engines() {
		for _, size := range []int{512, 4096, 65536} {
			for _, g := range shapes(t, engine, size) {
				w := newTwins(t, g.what, g.s, g.root)
				for place, key := range g.keys {
					w.at(place)
					same(t, g.what+": Cell", stands(w.c), key)
					same(t, g.what+": Next", w.call("Next", ""), place+1 < len(g.keys))
					if place+1 < len(g.keys) {
						same(t, g.what+": the next one", stands(w.c), g.keys[place+1])
						same(t, g.what+": Prev of Next", w.call("Prev", ""), true)
						same(t, g.what+": Prev of Next", stands(w.c), key)
					}
					w.at(place)
					same(t, g.what+": Prev", w.call("Prev", ""), place > 0)
					if place > 0 {
						same(t, g.what+": the one ahead", stands(w.c), g.keys[place-1])
						same(t, g.what+": Next of Prev", w.call("Next", ""), true)
						same(t, g.what+": Next of Prev", stands(w.c), key)
					}
					w.at(place)
					w.call("First", "")
					same(t, g.what+": First", stands(w.c), g.keys[0])
					w.at(place)
					w.call("Last", "")
					same(t, g.what+": Last", stands(w.c), g.keys[len(g.keys)-1])
				}
				g.s.justRead(t, g.what)
			}
		}
	}
}

// P13.2, P13.6: Seek of keys ahead of all, at each cell, between any two, behind all, the empty one, ones longer than any may be; and where it can go from there.
func TestSeek(t *testing.T) {
	for _, engine := range engines() {
		for _, size := range []int{512, 4096, 65536} {
			for _, g := range shapes(t, engine, size) {
				w := newTwins(t, g.what, g.s, g.root)
				for _, key := range nearKeys(g.keys) {
					what := fmt.Sprintf("%s: Seek %.80q", g.what, key)
					at := from(g.keys, key)
					for _, then := range []string{"Next", "Prev"} {
						same(t, what, w.call("Seek", key), at < len(g.keys))
						same(t, what+": Err", w.c.Err(), api.OK)
						if at < len(g.keys) {
							same(t, what, stands(w.c), g.keys[at])
						} else {
							same(t, what, stands(w.c), "130")
						}
						w.call(then, "")
					}
				}
				g.s.justRead(t, g.what)
			}
		}
	}
}

// P13.2: a key behind all of its leaf: the next leaf hangs below the same branch, below another one, below one further up, and there is none.
func TestSeekBehindItsLeaf(t *testing.T) {
	for _, engine := range engines() {
		s := newShelf(engine, 512)
		s.leaf(t, 10, "a", "b")
		s.leaf(t, 11, "d", "e")
		s.leaf(t, 12, "g", "h")
		s.leaf(t, 13, "j", "k")
		s.leaf(t, 14, "m", "n")
		s.branch(t, 20, lead("", 10), lead("d", 11))
		s.branch(t, 21, lead("", 12), lead("j", 13))
		s.branch(t, 22, lead("", 14))
		s.branch(t, 30, lead("", 20), lead("g", 21))
		s.branch(t, 31, lead("", 22))
		s.branch(t, 2, lead("", 30), lead("m", 31))
		w := newTwins(t, "behind its leaf", s, 2)
		for _, x := range []struct{ key, want string }{{"c", "d"}, {"f", "g"}, {"i", "j"}, {"l", "m"}, {"o", "130"}, {"m", "m"}} {
			same(t, x.key, w.call("Seek", x.key), x.want != "130")
			same(t, x.key, stands(w.c), x.want)
			same(t, x.key+": Err", w.c.Err(), api.OK)
		}
		// From there it goes on as from anywhere.
		w.call("Seek", "f")
		same(t, "Prev", w.call("Prev", ""), true)
		same(t, "Prev", stands(w.c), "e")
		w.call("Seek", "l")
		same(t, "Prev", w.call("Prev", ""), true)
		same(t, "Prev", stands(w.c), "k")
		w.call("Seek", "l")
		w.call("Next", "")
		same(t, "Next", stands(w.c), "n")
		same(t, "Next", w.call("Next", ""), false)
	}
}

// P13.3, P13.4: from behind the last and from ahead of the first, and from where nothing was found, there is no way back.
func TestNowhere(t *testing.T) {
	for _, engine := range engines() {
		for _, g := range shapes(t, engine, 512)[1:] {
			for _, lost := range [][]string{{"Last", "Next"}, {"First", "Prev"}, {"Seek"}} {
				for _, then := range []string{"Next", "Prev"} {
					w := newTwins(t, g.what, g.s, g.root)
					for _, what := range lost {
						key := ""
						if what == "Seek" {
							key = "\xff\xff\xff"
						}
						w.call(what, key)
					}
					same(t, g.what+": Cell", stands(w.c), "130")
					g.s.acts = nil
					for range 3 {
						same(t, g.what+": "+then, w.call(then, ""), false)
						same(t, g.what+": Cell", stands(w.c), "130")
						same(t, g.what+": Err", w.c.Err(), api.OK)
					}
					same(t, g.what+": asked", len(g.s.acts), 0)
					same(t, g.what+": First", w.call("First", ""), true)
				}
			}
		}
	}
}

// P13.2: it goes anew from wherever it stood, also where it is.
func TestCallsAgain(t *testing.T) {
	for _, engine := range engines() {
		for _, g := range shapes(t, engine, 512) {
			w := newTwins(t, g.what, g.s, g.root)
			for _, what := range []string{"First", "First", "Last", "Last", "First", "Seek", "Seek", "Last", "Seek", "First"} {
				w.call(what, "")
			}
			for _, a := range g.keys {
				for _, b := range g.keys {
					w.call("Seek", a)
					w.call("Seek", b)
					same(t, g.what+": Seek", stands(w.c), b)
				}
			}
		}
	}
}

// P13.4: a cell of every kind is told as it is.
func TestCellsOfAllKinds(t *testing.T) {
	for _, engine := range engines() {
		cells := row(value("a", ""), value("b", long(96)), spill("c", 65535, 65536), spill("d", 2, 97), named("e", 0, 0), named("f", 65535, 1<<30), named(long(64), 2, 1))
		s := newShelf(engine, 512)
		s.lay(t, 5, api.PageLeaf, cells[:3]...)
		s.lay(t, 6, api.PageLeaf, cells[3:]...)
		s.branch(t, 2, lead("", 5), lead("d", 6))
		c := cursor.New(s, 2)
		for i, is := 0, c.First(); is; i, is = i+1, c.Next() {
			got, e := c.Cell()
			same(t, "Cell", e, api.OK)
			sameCell(t, "Cell", got, cells[i])
		}
		samePairs(t, "Scan", scanned(s, 2, "", "", false, 99), fine(cells))
		falling := slices.Clone(cells)
		slices.Reverse(falling)
		samePairs(t, "Scan, reverse", scanned(s, 2, "", "", true, 99), fine(falling))
	}
}

// P13.6: what a good tree's walk is, both ways, to the end and no further.
func TestWholeWalks(t *testing.T) {
	for _, engine := range engines() {
		for _, size := range []int{512, 1024, 16384} {
			for _, g := range shapes(t, engine, size) {
				c := cursor.New(g.s, g.root)
				var rising, falling []string
				for is := c.First(); is; is = c.Next() {
					rising = append(rising, stands(c))
				}
				same(t, g.what+": Err", c.Err(), api.OK)
				for is := c.Last(); is; is = c.Prev() {
					falling = append(falling, stands(c))
				}
				same(t, g.what+": Err", c.Err(), api.OK)
				same(t, g.what+": rising", fmt.Sprintf("%q", rising), fmt.Sprintf("%q", g.keys))
				slices.Reverse(falling)
				same(t, g.what+": falling", fmt.Sprintf("%q", falling), fmt.Sprintf("%q", g.keys))
			}
		}
	}
}

// P13.7: two cursors over one tree, used in turns, have nothing in common.
func TestTwoCursors(t *testing.T) {
	for _, engine := range engines() {
		for _, g := range shapes(t, engine, 512)[1:] {
			a, b := newTwins(t, g.what+": one", g.s, g.root), newTwins(t, g.what+": the other", g.s, g.root)
			a.call("First", "")
			b.call("Last", "")
			for range len(g.keys) + 1 {
				a.call("Next", "")
				b.alike(g.what + ": behind Next of the one")
				b.call("Prev", "")
				a.alike(g.what + ": behind Prev of the other")
			}
			for _, key := range g.keys {
				a.call("Seek", key)
				b.call("Seek", g.keys[0])
				a.call("Prev", "")
				b.call("Next", "")
			}
		}
		// Over two rooms, whose pages have the same numbers.
		a, b := newShelf(engine, 512), newShelf(3-engine, 1024)
		a.leaf(t, 2, "a", "b")
		b.leaf(t, 2, "x", "y")
		one, other := cursor.New(a, 2), cursor.New(b, 2)
		same(t, "one", one.First(), true)
		same(t, "other", other.Last(), true)
		same(t, "one", stands(one), "a")
		same(t, "other", stands(other), "y")
		same(t, "one", one.Next(), true)
		same(t, "other", other.Prev(), true)
		same(t, "one", stands(one), "b")
		same(t, "other", stands(other), "x")
	}
}
