package tree_test

import (
	"bytes"
	"fmt"
	"slices"
	"testing"

	"espalier/api"
	"espalier/tree"
)

const spare = 64

// roomy lays b into memory of its own, with marked spare room behind it.
func roomy(b []byte) []byte {
	return append(bytes.Clone(b), bytes.Repeat([]byte{0xa5}, spare)...)[:len(b)]
}

// scribble writes over bytes and the spare room behind them.
func scribble(b []byte, with byte) {
	b = b[:cap(b)]
	for i := range b {
		b[i] = with
	}
}

func scribbleCell(c api.Cell, with byte) {
	scribble(c.Key, with)
	scribble(c.Value, with)
}

func untouched(t *testing.T, what string, b, want []byte) {
	t.Helper()
	same(t, what+": what was handed in", string(b), string(want))
	same(t, what+": the spare room", string(b[len(b):len(b)+spare]), string(bytes.Repeat([]byte{0xa5}, spare)))
}

// bytesOf are the pages of a shelf as they are now.
func bytesOf(s *shelf) string { return fmt.Sprint(s.held) }

// R2: keys that are handed to looks, and to Delete, are not changed, nor the spare room behind them; the room's pages neither.
func TestKeysHandedInStay(t *testing.T) {
	for _, engine := range engines() {
		for _, g := range shapes(t, engine, 512) {
			s := g.room
			before := bytesOf(s)
			for _, key := range nearKeys(g.cells) {
				k := roomy([]byte(key))
				tree.Get(s, g.root, k)
				untouched(t, "Get", k, []byte(key))
				tree.Rank(s, g.root, k)
				untouched(t, "Rank", k, []byte(key))
				same(t, g.what+": the pages", bytesOf(s), before)
				tree.Delete(s.copied(false), g.root, k)
				untouched(t, "Delete", k, []byte(key))
				tree.Delete(s.copied(true), g.root, k)
				untouched(t, "Delete", k, []byte(key))
			}
			for i := range len(g.cells) {
				tree.At(s, g.root, i)
			}
			tree.Len(s, g.root)
			tree.Height(s, g.root)
			tree.Pages(s, g.root)
			same(t, g.what+": the pages", bytesOf(s), before)
		}
	}
}

// R2: a cell that is handed to Put is not changed, nor the spare room behind its key and its value, and may be written over afterwards.
func TestCellsHandedInStay(t *testing.T) {
	r := chance()
	for _, engine := range engines() {
		s := newShelf(engine, 512, 6000)
		g := planted(t, fmt.Sprint("cells handed in, engine ", engine), s)
		for range 400 {
			c := anyCell(r, 512)
			mine := c
			mine.Key, mine.Value = roomy(c.Key), roomy(c.Value)
			root, _, _, e := tree.Put(s, g.root, mine)
			same(t, "Put", e, api.OK)
			g.root = root
			untouched(t, "Put: key", mine.Key, c.Key)
			untouched(t, "Put: value", mine.Value, c.Value)
			sameCell(t, "Put", mine, c)
			scribbleCell(mine, 0xee)
			at, there := g.find(c.Key)
			if there {
				g.cells[at] = c
			} else {
				g.cells = slices.Insert(g.cells, at, c)
			}
		}
		clear(s.known)
		is, fault := s.good(g.root)
		same(t, g.what, fault, "")
		sameCells(t, g.what, is.cells, g.cells)
		for _, c := range append(mayNotBe(), value("", "v"), value("k", long(97))) {
			mine := c
			mine.Key, mine.Value = roomy(c.Key), roomy(c.Value)
			tree.Put(s, g.root, mine)
			untouched(t, "Put that is refused: key", mine.Key, c.Key)
			untouched(t, "Put that is refused: value", mine.Value, c.Value)
		}
	}
}

// R2: what looks tell shares no memory with the room's pages, with the key that was asked for, nor with another answer.
func TestWhatIsToldIsNewMemory(t *testing.T) {
	for _, engine := range engines() {
		for _, g := range shapes(t, engine, 512) {
			s := g.room
			before := bytesOf(s)
			for i, want := range g.cells {
				key := bytes.Clone(want.Key)
				var answers []api.Cell
				for range 2 {
					c, _, _ := tree.Get(s, g.root, key)
					d, _, _ := tree.At(s, g.root, i)
					answers = append(answers, c, d)
				}
				for n, c := range answers {
					// The key is written over first, its value must stay.
					scribble(c.Key, byte(n))
					same(t, g.what+": a value beside its key", string(c.Value), string(want.Value))
					scribble(c.Value, byte(n))
					for _, d := range answers[n+1:] {
						sameCell(t, g.what+": another answer", d, want)
					}
				}
				same(t, g.what+": the key that was asked for", string(key), string(want.Key))
			}
			a, _ := tree.Pages(s, g.root)
			b, _ := tree.Pages(s, g.root)
			a = a[:cap(a)]
			for i := range a {
				a[i] = -1
			}
			sameList(t, g.what+": Pages told twice", b, g.is.pages)
			same(t, g.what+": the pages", bytesOf(s), before)
		}
	}
}

// R2: what Put and Delete tell shares no memory with the room's pages; it stays whatever is done to these.
func TestWhatChangesTellIsNewMemory(t *testing.T) {
	for _, engine := range engines() {
		for _, fresh := range []bool{true, false} {
			for _, g := range shapes(t, engine, 512) {
				for _, want := range g.cells {
					for what, do := range map[string]func(s *shelf) (int, api.Cell, bool, api.Errno){
						"Put": func(s *shelf) (int, api.Cell, bool, api.Errno) {
							return tree.Put(s, g.root, value(string(want.Key), "new"))
						},
						"Delete": func(s *shelf) (int, api.Cell, bool, api.Errno) { return tree.Delete(s, g.root, want.Key) },
					} {
						s := g.room.copied(fresh)
						_, c, _, _ := do(s)
						after := bytesOf(s)
						sameCell(t, what, c, want)
						scribble(c.Key, 0x11)
						same(t, what+": the value beside its key", string(c.Value), string(want.Value))
						scribble(c.Value, 0x22)
						same(t, what+": the pages", bytesOf(s), after)
						s = g.room.copied(fresh)
						_, c, _, _ = do(s)
						for _, b := range s.held {
							scribble(b, 0x77)
						}
						sameCell(t, what+": the pages written over", c, want)
					}
				}
			}
		}
	}
}

// R2: no two pages that are handed to the room share memory.
func TestPagesThatAreWrittenShareNothing(t *testing.T) {
	for _, engine := range engines() {
		s := newShelf(engine, 512, 6000)
		root := 0
		for i := range 300 {
			root, _, _, _ = tree.Put(s, root, value(fmt.Sprintf("%03d", i*7%300), long(i%97)))
		}
		for n, b := range s.held {
			scribble(b, byte(n))
		}
		for n, b := range s.held {
			same(t, "a page written over", bytes.Count(b[:cap(b)], []byte{byte(n)}), cap(b))
		}
	}
}

// R6: what a call answers does not hang on calls before it, with other rooms or roots.
func TestNothingIsKept(t *testing.T) {
	a, b := newShelf(api.Plain, 512, 400), newShelf(api.Packed, 1024, 400)
	rootA, _ := threeLevels(t, a)
	rootB, _ := manyLevels(t, b, 3)
	for range 3 {
		same(t, "the one", getOf(a, rootA, "h"), "0 h:h")
		same(t, "the other", getOf(b, rootB, "003"), "0 003:003")
		same(t, "no root", getOf(a, 300, "h"), "error 30")
		same(t, "a root of the other", getOf(b, 21, "h"), "error 30")
		same(t, "refused", putOf(a, rootA, value("", "")), "error 31")
		same(t, "At", atOf(a, rootA, 9), "0 h:h")
		same(t, "Drop of none", tree.Drop(b, 21), api.ErrPage)
	}
	for range 3 {
		one, other := a.copied(false), a.copied(false)
		same(t, "alike rooms, alike answers", putOf(one, rootA, value("e", "x")), putOf(other, rootA, value("e", "x")))
		same(t, "alike rooms, alike pages", bytesOf(one), bytesOf(other))
		same(t, "alike rooms, alike acts", fmt.Sprint(one.acts), fmt.Sprint(other.acts))
	}
}
