package cursor_test

import (
	"bytes"
	"fmt"
	"strings"
	"testing"

	"espalier/api"
	"espalier/cursor"
)

const spare = 64

// roomy lays b into memory of its own, with marked spare room behind it.
func roomy(b string) []byte {
	return append([]byte(b), bytes.Repeat([]byte{0xa5}, spare)...)[:len(b)]
}

// scribble writes over bytes and the spare room behind them.
func scribble(b []byte, with byte) {
	b = b[:cap(b)]
	for i := range b {
		b[i] = with
	}
}

func scribbleCell(c api.Cell, with byte) {
	scribble(c.Key, with)
	scribble(c.Value, with)
}

func untouched(t *testing.T, what string, b []byte, want string) {
	t.Helper()
	same(t, what+": what was handed in", string(b), want)
	same(t, what+": the spare room", string(b[len(b):len(b)+spare]), string(bytes.Repeat([]byte{0xa5}, spare)))
}

// P13.7: keys that are handed in are not changed, nor the spare room behind them; the room's pages neither.
func TestWhatIsHandedInStays(t *testing.T) {
	for _, engine := range engines() {
		for _, g := range shapes(t, engine, 512) {
			before := bytesOf(g.s)
			c := cursor.New(g.s, g.root)
			for _, key := range nearKeys(g.keys) {
				k := roomy(key)
				c.Seek(k)
				untouched(t, g.what+": Seek", k, key)
				c.Next()
				c.Cell()
				c.Prev()
				untouched(t, g.what+": Next, Prev", k, key)
				for _, reverse := range []bool{false, true} {
					lo, hi := roomy(key), roomy(key+"\xff")
					for range cursor.Scan(g.s, g.root, lo, hi, reverse) {
						untouched(t, g.what+": lo in a range", lo, key)
						untouched(t, g.what+": hi in a range", hi, key+"\xff")
					}
					untouched(t, g.what+": lo", lo, key)
					untouched(t, g.what+": hi", hi, key+"\xff")
				}
			}
			c.First()
			c.Last()
			same(t, g.what+": the pages", bytesOf(g.s), before)
			g.s.justRead(t, g.what)
		}
	}
}

// P13.7: a key may be written over behind Seek.
func TestKeysWrittenOver(t *testing.T) {
	for _, engine := range engines() {
		for _, g := range shapes(t, engine, 512)[1:] {
			for i, key := range g.keys {
				w := newTwins(t, g.what, g.s, g.root)
				k := roomy(key)
				same(t, g.what+": Seek", w.c.Seek(k), w.w.seek(key))
				for _, with := range []byte{0, 0xff, 'm'} {
					scribble(k, with)
					w.alike(g.what + ": the key written over")
				}
				w.call("Next", "")
				scribble(k, 'a')
				w.call("Prev", "")
				if i > 0 {
					w.call("Seek", g.keys[i-1])
				}
			}
		}
	}
}

// P13.5, P13.7: lo and hi count as they are at the call, also where they are written over ahead of a range, within it, and between two.
func TestBoundsWrittenOver(t *testing.T) {
	for _, engine := range engines() {
		s := newShelf(engine, 512)
		root, keys := threeLevels(t, s)
		for i, x := range [][2]string{{"b", "h"}, {"", "h"}, {"b", ""}, {"c\x00", "g"}, {"h", "b"}, {"\x00", "\xff"}} {
			for _, reverse := range []bool{false, true} {
				for _, with := range []byte{0, 'd', 0xff} {
					what := fmt.Sprintf("bounds %d, %v, written over with %d", i, reverse, with)
					want := wanted(keys, x[0], x[1], reverse)
					if x[1] != "" && x[0] >= x[1] {
						want = nil
					}
					lo, hi := roomy(x[0]), roomy(x[1])
					all := cursor.Scan(s, root, lo, hi, reverse)
					var l []string
					for c := range all {
						scribble(lo, with)
						scribble(hi, with)
						l = append(l, string(c.Key))
					}
					same(t, what+", within", strings.Join(l, " "), strings.Join(want, " "))
					scribble(lo, with+1)
					scribble(hi, with+1)
					same(t, what+", between", keysOf(all), strings.Join(want, " "))
					lo, hi = roomy(x[0]), roomy(x[1])
					all = cursor.Scan(s, root, lo, hi, reverse)
					scribble(lo, with)
					scribble(hi, with)
					same(t, what+", ahead", keysOf(all), strings.Join(want, " "))
				}
			}
		}
	}
}

// P13.7: what Cell tells shares no memory with the cursor, the room's pages, the key that was asked for, or another answer.
func TestWhatCellTellsIsNewMemory(t *testing.T) {
	for _, engine := range engines() {
		for _, g := range shapes(t, engine, 512)[1:] {
			before := bytesOf(g.s)
			c, other := cursor.New(g.s, g.root), cursor.New(g.s, g.root)
			for _, key := range g.keys {
				k := []byte(key)
				want := values(key)[0]
				c.Seek(k)
				other.Seek(k)
				var answers []api.Cell
				for range 2 {
					a, _ := c.Cell()
					b, _ := other.Cell()
					answers = append(answers, a, b)
				}
				for n, a := range answers {
					// The key is written over first, its value must stay.
					scribble(a.Key, byte(n))
					same(t, g.what+": a value beside its key", string(a.Value), string(want.Value))
					scribble(a.Value, byte(n))
					for _, b := range answers[n+1:] {
						sameCell(t, g.what+": another answer", b, want)
					}
				}
				again, _ := c.Cell()
				sameCell(t, g.what+": told again", again, want)
				same(t, g.what+": the key that was asked for", string(k), key)
			}
			same(t, g.what+": the pages", bytesOf(g.s), before)
		}
	}
}

// P13.7: what a cursor has told stays, whatever becomes of the room's pages and of the cursor.
func TestWhatWasToldStays(t *testing.T) {
	for _, engine := range engines() {
		for _, g := range shapes(t, engine, 512)[1:] {
			c := cursor.New(g.s, g.root)
			var l []pair
			for is := c.First(); is; is = c.Next() {
				cell, e := c.Cell()
				l = append(l, pair{cell, e})
			}
			m := scanned(g.s, g.root, "", "", false, 1000)
			for _, b := range g.s.held {
				scribble(b, 0x77)
			}
			c.Last()
			samePairs(t, g.what+": Cell", l, fine(values(g.keys...)))
			samePairs(t, g.what+": Scan", m, fine(values(g.keys...)))
		}
	}
}

// P13.7: the cells of a range are new memory, each: written over as they come, they change nothing that comes behind them, or was told.
func TestCellsOfARangeWrittenOver(t *testing.T) {
	for _, engine := range engines() {
		for _, g := range shapes(t, engine, 512)[1:] {
			before := bytesOf(g.s)
			for _, reverse := range []bool{false, true} {
				want := fine(values(wanted(g.keys, "", "", reverse)...))
				all := cursor.Scan(g.s, g.root, nil, nil, reverse)
				n := 0
				for c := range all {
					sameCell(t, g.what, c, want[n].c)
					scribble(c.Key, 0xee)
					same(t, g.what+": a value beside its key", string(c.Value), string(want[n].c.Value))
					scribble(c.Value, 0xdd)
					n++
				}
				kept := pairsOf(all)
				for i, p := range kept {
					sameCell(t, g.what+": kept", p.c, want[i].c)
					scribbleCell(p.c, byte(i))
				}
				samePairs(t, g.what+": ranged over again", pairsOf(all), want)
			}
			same(t, g.what+": the pages", bytesOf(g.s), before)
		}
	}
}

// R6: what a call answers does not hang on calls before it on other cursors, rooms or roots.
func TestNothingIsKept(t *testing.T) {
	a, b := newShelf(api.Plain, 512), newShelf(api.Packed, 1024)
	rootA, keysA := threeLevels(t, a)
	rootB, keysB := manyLevels(t, b, 3)
	for range 3 {
		same(t, "the one", told(a, rootA, "", "", false), strings.Join(keysA, " "))
		same(t, "the other", told(b, rootB, "", "", true), strings.Join(wanted(keysB, "", "", true), " "))
		same(t, "no root", told(a, 300, "", "", false), "30")
		fails(t, "no root", a, 300, api.ErrPage, first)
		fails(t, "a leaf, ahead of its first", a, 10, api.OK, first, prev)
		same(t, "of a leaf", told(a, 13, "", "", false), "g\x00\x00 h i")
	}
}
