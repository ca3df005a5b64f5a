package bulk_test

import (
	"bytes"
	"fmt"
	"iter"
	"slices"
	"testing"

	"espalier/api"
	"espalier/bulk"
	"espalier/cursor"
)

const spareRoom = 32

// roomy lays cells into memory of their own, with marked spare room behind all keys and values and behind the list.
func roomy(cells []api.Cell) []api.Cell {
	out := make([]api.Cell, len(cells), len(cells)+spareRoom)
	mark := func(b []byte) []byte {
		return append(bytes.Clone(b), bytes.Repeat([]byte{0xa5}, spareRoom)...)[:len(b)]
	}
	for i, c := range cells {
		c.Key, c.Value = mark(c.Key), mark(c.Value)
		out[i] = c
	}
	return out
}

// untouched holds cells that roomy has laid against what they were.
func untouched(t *testing.T, what string, got, want []api.Cell) {
	t.Helper()
	sameCells(t, what+": what was handed in", got, want)
	for _, c := range got {
		for _, b := range [][]byte{c.Key, c.Value} {
			same(t, what+": the spare room", bytes.Count(b[len(b):len(b)+spareRoom], []byte{0xa5}), spareRoom)
		}
	}
	for _, c := range got[len(got):cap(got)] {
		same(t, what+": the list's spare room", alike(c, api.Cell{}), true)
	}
}

// scribble writes over bytes and the spare room behind them.
func scribble(b []byte, with byte) {
	b = b[:cap(b)]
	for i := range b {
		b[i] = with
	}
}

// R2: keys and values are not changed, nor the spare room behind them, by Build or Need, whatever they answer.
func TestWhatIsHandedInStays(t *testing.T) {
	for _, engine := range engines() {
		for i, cells := range append(rows(), values("a", "b", "a"), values("a", ""), row(value("a", "v"), lead("b", 2, 1))) {
			for _, spare := range []int{0, 1000} {
				for _, fail := range []int{-1, 1, 2, 5} {
					what := fmt.Sprintf("row %d, engine %d, %d pages, failing at %d", i, engine, spare, fail)
					l := roomy(cells)
					s := newShelf(engine, 512, spare)
					s.fail = fail
					bulk.Build(s, slices.Values(l), 128)
					untouched(t, what, l, cells)
					bulk.Need(engine, 512, 128, l)
					untouched(t, what, l, cells)
				}
			}
		}
	}
}

// R2, P14.3: nothing is kept: cells that are written over behind the call change no page; pages share no memory with them, and none with one another.
func TestNothingIsShared(t *testing.T) {
	for _, engine := range engines() {
		for _, cells := range rows() {
			l := roomy(cells)
			s := newShelf(engine, 512, 1000)
			root, _, e := bulk.Build(s, slices.Values(l), 128)
			same(t, "Build", e, api.OK)
			for i := range l {
				scribble(l[i].Key, 0x77)
				scribble(l[i].Value, 0x88)
				l[i] = api.Cell{}
			}
			grows(t, "written over behind the call", s, root, cells, 128)
			sharesNone(t, s, cells)
		}
	}
}

// sharesNone writes over the pages that a shelf was given, one by one, and looks whether another one changes with it.
func sharesNone(t *testing.T, s *shelf, cells []api.Cell) {
	t.Helper()
	before := map[int][]byte{}
	for n, b := range s.held {
		before[n] = bytes.Clone(b)
	}
	kept := cloned(cells)
	pages := s.asked("alloc")
	for i, n := range pages {
		scribble(s.held[n], 0x66)
		for _, m := range pages[i+1:] {
			same(t, "another page", bytes.Equal(s.held[m], before[m]), true)
		}
	}
	sameCells(t, "the cells", cells, kept)
}

// reused tells cells one behind the other out of the same memory, and spoils it at the end.
func reused(cells []api.Cell) iter.Seq[api.Cell] {
	return func(yield func(api.Cell) bool) {
		key, v := make([]byte, 70000), make([]byte, 70000)
		for _, c := range cells {
			scribble(key, 0xee)
			scribble(v, 0xdd)
			c.Key, c.Value = key[:copy(key, c.Key)], v[:copy(v, c.Value)]
			if !yield(c) {
				break
			}
		}
		scribble(key, 0)
		scribble(v, 0)
	}
}

// R2: a function may tell each cell in the memory of the one ahead of it.
func TestCellsToldInOneMemory(t *testing.T) {
	for _, engine := range engines() {
		for _, cells := range rows() {
			s := newShelf(engine, 512, 1000)
			root, n, e := bulk.Build(s, reused(cells), 128)
			same(t, "Build", e, api.OK)
			same(t, "how many", n, len(cells))
			grows(t, "told in one memory", s, root, cells, 128)
		}
		s := newShelf(engine, 512, 1000)
		_, _, e := bulk.Build(s, reused(values("a", "c", "b")), 128)
		same(t, "falling", e, api.ErrSorted)
		_, _, e = bulk.Build(s, reused(values("a", "b", "b")), 128)
		same(t, "alike", e, api.ErrSorted)
		_, _, e = bulk.Build(s, reused(values("b", "a")), 128)
		same(t, "falling at once", e, api.ErrSorted)
	}
}

// R2: the function is used while the call runs, once.
func TestTheFunctionIsUsedOnce(t *testing.T) {
	for _, engine := range engines() {
		s := newShelf(engine, 512, 1000)
		over, began := false, 0
		_, _, e := bulk.Build(s, func(yield func(api.Cell) bool) {
			began++
			same(t, "used behind the call", over, false)
			for _, c := range values("a", "b", "c", "d", "e") {
				if !yield(c) {
					return
				}
				same(t, "what the room was asked meanwhile", len(s.acts), 0)
			}
		}, 128)
		over = true
		same(t, "Build", e, api.OK)
		same(t, "ranges", began, 1)
	}
}

// R3: nil and an empty list are alike within cells.
func TestNilAndEmptyAreAlike(t *testing.T) {
	for _, engine := range engines() {
		var pages []string
		for _, empty := range [][]byte{nil, {}, make([]byte, 0, 9)} {
			cells := row(value("a", ""), spill("b", 9, 200), named("c", 0, 0), named("d", 5, 6))
			for i := range cells {
				cells[i].Value = empty
			}
			s := newShelf(engine, 512, 9)
			_, n, e := bulk.Build(s, slices.Values(cells), 128)
			same(t, "Build", e, api.OK)
			same(t, "how many", n, 4)
			pages = append(pages, fmt.Sprint(s.held))
			for _, key := range [][]byte{nil, {}} {
				_, _, e := bulk.Build(s, slices.Values(row(api.Cell{Key: key, Kind: api.CellValue})), 128)
				same(t, "no key", e, api.ErrCell)
			}
		}
		same(t, "alike", pages[0] == pages[1] && pages[1] == pages[2], true)
	}
}

// R6: the same calls are answered alike, whatever came between.
func TestNothingIsKept(t *testing.T) {
	for _, engine := range engines() {
		for _, cells := range rows() {
			var was string
			for range 3 {
				s := newShelf(engine, 512, 1000)
				root, n, e := bulk.Build(s, slices.Values(cells), 128)
				is := fmt.Sprint(root, n, e, s.acts, s.held)
				if was != "" {
					same(t, "once more", is == was, true)
				}
				was = is
				bulk.Build(newShelf(3-engine, 1024, 1000), slices.Values(bounded(9, 9)), 256)
				bulk.Build(newShelf(engine, 512, 0), slices.Values(values("b", "a")), 256)
			}
		}
	}
}

// Cells may come out of a tree of the same room, or out of another Build.
func TestCellsOutOfATree(t *testing.T) {
	for _, engine := range engines() {
		cells := bounded(50, 50)
		r := api.NewBench(engine, 512, 1000)
		first, _, e := bulk.Build(r, slices.Values(cells), 128)
		same(t, "Build", e, api.OK)
		inner := newShelf(engine, 512, 1000)
		second, n, e := bulk.Build(r, func(yield func(api.Cell) bool) {
			for c := range cursor.Scan(r, first, nil, nil, false) {
				bulk.Build(inner, slices.Values(cells[:5]), 200)
				if !yield(c) {
					return
				}
			}
		}, 256)
		same(t, "Build of a tree's cells", e, api.OK)
		same(t, "how many", n, len(cells))
		grows(t, "the first one", r, first, cells, 128)
		grows(t, "the second one", r, second, cells, 256)
	}
}
