package bulk_test

import (
	"fmt"
	"slices"
	"testing"

	"espalier/api"
	"espalier/bulk"
	"espalier/pager"
	"espalier/plate"
)

// rows are cells of trees of no page, of one, of few, and of several levels, on pages of 512 bytes.
func rows() [][]api.Cell {
	return [][]api.Cell{nil, values("a"), values("a", "b", "c"), values("a", "b", "c", "d"), bounded(6, 3), bounded(40, 60), bounded(120, 64)}
}

// P14.1: in a room with just enough pages, and with one too few.
func TestRoomsJustGreatEnough(t *testing.T) {
	for _, engine := range engines() {
		for i, cells := range rows() {
			need := len(wanted(engine, 512, 128, cells))
			for _, spare := range []int{need, need + 1, need + 1000} {
				s := newShelf(engine, 512, spare)
				_, n, e := bulk.Build(s, slices.Values(cells), 128)
				same(t, "enough", e, api.OK)
				same(t, "enough: how many", n, len(cells))
				same(t, "enough: pages taken", len(s.held), need)
			}
			for _, spare := range []int{need - 1, 0, -1} {
				if spare >= need {
					continue
				}
				what := fmt.Sprintf("row %d, engine %d, %d pages for %d", i, engine, spare, need)
				s := newShelf(engine, 512, spare)
				told := &teller{cells: cells}
				root, n, e := bulk.Build(s, told.all(), 128)
				same(t, what, e, api.ErrFull)
				same(t, what+": the root", root, 0)
				same(t, what+": how many", n, 0)
				same(t, what+": cells told", told.told, len(cells))
				sameList(t, what+": what the room was asked", s.acts, []act{{"spare", need}})
			}
		}
	}
}

// P14.1: the same on benches.
func TestBenchesJustGreatEnough(t *testing.T) {
	for _, engine := range engines() {
		for _, cells := range rows() {
			need := len(wanted(engine, 512, 128, cells))
			r := api.NewBench(engine, 512, need+2)
			root, n, e := bulk.Build(r, slices.Values(cells), 128)
			same(t, "just enough", e, api.OK)
			same(t, "just enough: how many", n, len(cells))
			same(t, "just enough: pages", len(r.Taken()), need)
			if need > 0 {
				same(t, "just enough: the root", root, need+1)
				r = api.NewBench(engine, 512, need+1)
				root, n, e = bulk.Build(r, slices.Values(cells), 128)
				same(t, "one fewer", e, api.ErrFull)
				same(t, "one fewer: the root", root, 0)
				same(t, "one fewer: how many", n, 0)
				sameList(t, "one fewer: pages", r.Taken(), nil)
			}
		}
	}
}

// P14.1: an error of Alloc and one of Write, at each page in turn, is the answer at once; nothing is given back.
func TestRoomsThatRefuse(t *testing.T) {
	for _, engine := range engines() {
		for i, cells := range rows() {
			need := len(wanted(engine, 512, 128, cells))
			good := newShelf(engine, 512, need)
			builds(t, "refusing nothing", good, cells, 128)
			// Act 0 is Spare; then Alloc and Write in turns.
			for fail := 1; fail <= 2*need; fail++ {
				what := fmt.Sprintf("row %d, engine %d, act %d refused", i, engine, fail)
				s := newShelf(engine, 512, need)
				s.fail = fail
				root, n, e := bulk.Build(s, slices.Values(cells), 128)
				same(t, what, e, ofTheRoom)
				same(t, what+": the root", root, 0)
				same(t, what+": how many", n, 0)
				sameList(t, what+": what the room was asked", s.acts, good.acts[:fail+1])
				same(t, what+": pages that stay taken", len(s.held), fail/2)
			}
			s := newShelf(engine, 512, need)
			s.fail = 2*need + 1
			_, _, e := bulk.Build(s, slices.Values(cells), 128)
			same(t, "no act refused", e, api.OK)
		}
	}
}

// boaster says that it has room.
type boaster struct{ *api.Bench }

func (boaster) Spare(int) bool { return true }

// P14.1: an error of a room that has said it has pages enough.
func TestARoomThatBoasts(t *testing.T) {
	for _, engine := range engines() {
		cells := values("a", "b", "c", "d", "e", "f")
		r := api.NewBench(engine, 512, 4)
		root, n, e := bulk.Build(boaster{r}, slices.Values(cells), 128)
		same(t, "Build", e, api.ErrFull)
		same(t, "the root", root, 0)
		same(t, "how many", n, 0)
		sameList(t, "what was taken", r.Taken(), []int{2, 3})
		hasPage(t, r, 2, api.PageLeaf, cells[:2])
		hasPage(t, r, 3, api.PageLeaf, cells[2:4])
	}
}

// P14.1: in a transaction: Spare of no page is asked there, too, and its errors are handed on.
func TestTransactions(t *testing.T) {
	for _, engine := range engines() {
		cells := bounded(20, 60)
		need := len(wanted(engine, 512, 128, cells))
		p, _ := pager.Open(plate.New(512, need+20), engine)
		x, _ := p.Begin()
		root, n, e := bulk.Build(x, slices.Values(cells), 128)
		same(t, "Build", e, api.OK)
		same(t, "how many", n, len(cells))
		same(t, "SetRoot", x.SetRoot(root, 1), api.OK)
		_, e = x.Commit()
		same(t, "Commit", e, api.OK)
		v, _ := p.View()
		grows(t, "a view", v, root, cells, 128)
		// A view and a transaction that is over have no page to spare, not even none.
		for _, r := range []api.Room{v, x} {
			for _, cells := range [][]api.Cell{nil, cells} {
				root, n, e = bulk.Build(r, slices.Values(cells), 128)
				same(t, "where nothing is made", e, api.ErrFull)
				same(t, "the root", root, 0)
				same(t, "how many", n, 0)
			}
		}
		v.Close()
	}
}

// P14.1: a transaction that has no page for its list refuses no cells, too.
func TestNoCellsInAFullTransaction(t *testing.T) {
	p, _ := pager.Open(plate.New(512, 4), api.Plain)
	x, _ := p.Begin()
	page, _ := x.Alloc()
	x.Alloc()
	x.Write(page, make([]byte, 512))
	x.SetRoot(page, 1)
	_, e := x.Commit()
	same(t, "Commit", e, api.OK)
	x, _ = p.Begin()
	_, _, e = bulk.Build(x, nil, 256)
	same(t, "none, where there is room", e, api.OK)
	same(t, "Free", x.Free(page), api.OK)
	same(t, "Spare behind Free", x.Spare(0), false)
	root, n, e := bulk.Build(x, nil, 256)
	same(t, "none, where there is no room", e, api.ErrFull)
	same(t, "the root", root, 0)
	same(t, "how many", n, 0)
}
