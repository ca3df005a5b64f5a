package pager_test

import (
	"fmt"
	"math"
	"slices"
	"testing"

	"espalier/api"
	"espalier/pager"
	"espalier/plate"
)

// Both are rooms.
var (
	_ api.Room = (*pager.Txn)(nil)
	_ api.Room = (*pager.View)(nil)
)

// P11.3: one at a time.
func TestBegin(t *testing.T) {
	_, p := both(t, 8)
	for i := range 5 {
		x := begun(t, p)
		for range 3 {
			refusesBegin(t, p, api.ErrBusy)
		}
		takes(t, x, 2+i)
		refusesBegin(t, p, api.ErrBusy)
		commits(t, x, i+1)
		y := begun(t, p)
		refusesBegin(t, p, api.ErrBusy)
		rollsBack(t, x, api.ErrOver) // an old one has no say
		refusesBegin(t, p, api.ErrBusy)
		rollsBack(t, y, api.OK)
	}
	commits(t, begun(t, p), 6)
}

// P11.3: the number of a commit at its last.
func TestBeginBehindTheLastNumber(t *testing.T) {
	d := laid(t, 8, api.Meta{Txn: api.MaxTxn - 2, Root: 2, Count: 1, High: 4}, nil)
	p := opened(t, d)
	commits(t, begun(t, p), api.MaxTxn-1)
	x := begun(t, p)
	frees(t, x, api.OK, 3)
	takes(t, x, 4)
	commits(t, x, api.MaxTxn)
	m := p.Meta()
	same(t, "Meta", m, plainMeta(api.Meta{Txn: api.MaxTxn, Root: 2, Count: 1, Free: 5, Listed: 1, High: 6}))
	for _, q := range []*pager.Pager{p, opened(t, d)} {
		for range 3 {
			refusesBegin(t, q, api.ErrLast)
			same(t, "Meta", q.Meta(), m)
			same(t, "Spare", q.Spare(), 2) // 3, 6 and 7 could be taken; one of them is for the list
		}
		v := viewed(t, q)
		same(t, "Txn of a view", v.Meta().Txn, api.MaxTxn)
		reads(t, v, 2, zero)
		sameList(t, "Views", q.Views(), []int{api.MaxTxn})
	}
}

// P11.4: the engine and the page size, also of what is over.
func TestEngineAndSize(t *testing.T) {
	for _, size := range sizes() {
		for _, engine := range []int{api.Plain, api.Packed} {
			p, _ := pager.Open(plate.New(size, 8), engine)
			x, v := begun(t, p), viewed(t, p)
			for range 2 {
				same(t, "of a transaction", [2]int{x.Engine(), x.Size()}, [2]int{engine, size})
				same(t, "of a view", [2]int{v.Engine(), v.Size()}, [2]int{engine, size})
				x.Rollback()
				v.Close()
			}
		}
	}
}

// P11.4: Read, Write, Free and Fresh of pages of each kind.
func TestEachKindOfPage(t *testing.T) {
	type answer struct {
		read, write, free api.Errno
		fresh             bool
	}
	inUse := answer{api.OK, api.ErrFresh, api.OK, false}
	ofList := answer{api.OK, api.ErrFresh, api.ErrPage, false}
	isNone := answer{api.ErrPage, api.ErrPage, api.ErrPage, false}
	fresh := answer{api.OK, api.OK, api.OK, true}
	kinds := map[int]answer{
		2: inUse, 4: inUse, // what a commit has
		7:  inUse,  // fresh in a commit that is over
		3:  isNone, // it waits
		8:  isNone, // it waits: a page of the list of before
		9:  ofList,
		10: fresh, // written
		11: fresh, // not written
		12: isNone,
		5:  isNone, // given back just now
		13: isNone, // the height
		14: isNone, // above it
		15: isNone,
		16: isNone, // above the device
	}
	for _, n := range noPages() {
		kinds[n] = isNone
	}
	for n, want := range kinds {
		x := begun(t, stuffed(t, 16).p)
		takes(t, x, 10, 11, 12)
		writes(t, x, 10, 50, api.OK)
		writes(t, x, 12, 51, api.OK)
		frees(t, x, api.OK, 5, 12)
		what := fmt.Sprintf("page %d: ", n)
		for range 2 {
			b, e := x.Read(n)
			same(t, what+"Read", e, want.read)
			same(t, what+"bytes", len(b), map[bool]int{true: 512}[e == api.OK])
			same(t, what+"Fresh", x.Fresh(n), want.fresh)
			same(t, what+"Write", x.Write(n, page(60)), want.write)
		}
		same(t, what+"Free", x.Free(n), want.free)
		same(t, what+"Fresh behind Free", x.Fresh(n), false)
		if want.free == api.OK {
			refusesRead(t, x, n, api.ErrPage)
			writes(t, x, n, 1, api.ErrPage)
			frees(t, x, api.ErrPage, n)
		}
	}
}

// P11.4: what Read tells: what was written last, zeros, or what the device has.
func TestRead(t *testing.T) {
	s := stuffed(t, 16)
	x := begun(t, s.p)
	reads(t, x, 2, page(1))
	reads(t, x, 4, page(3))
	reads(t, x, 7, zero)
	reads(t, x, 9, listPage(0, 3, 8))
	s.d.Write(13, page(90)) // a page that was never in use may hold anything
	takes(t, x, 10, 11, 12, 13)
	reads(t, x, 13, zero)
	writes(t, x, 13, 40, api.OK)
	reads(t, x, 13, page(40))
	writes(t, x, 13, 41, api.OK)
	writes(t, x, 10, 42, api.OK)
	for range 2 {
		reads(t, x, 13, page(41))
		reads(t, x, 10, page(42))
		reads(t, x, 11, zero)
	}
	frees(t, x, api.OK, 13, 10)
	refusesRead(t, x, 13, api.ErrPage)
	takes(t, x, 10, 13)
	reads(t, x, 13, zero) // what was written there is gone
	reads(t, x, 10, zero)
	reads(t, s.v, 3, page(2))
	sameBytes(t, "the device's", onDevice(s.d, 13), page(90))
}

// P11.4: the least free page, then the height, until none is left; what is given back fresh is free at once, what is not waits.
func TestAlloc(t *testing.T) {
	d := laid(t, 12, api.Meta{Txn: 4, Root: 2, Count: 1, Free: 3, Listed: 3, High: 10}, map[int][]byte{3: listPage(0, 4, 6, 9)})
	p := opened(t, d)
	x := begun(t, p)
	takes(t, x, 4, 6)
	frees(t, x, api.OK, 4, 5, 7)
	takes(t, x, 4, 9, 10)
	frees(t, x, api.OK, 10, 9)
	takes(t, x, 9, 10, 11)
	for range 3 {
		refusesAlloc(t, x, api.ErrFull)
	}
	for _, n := range []int{4, 6, 9, 10, 11} {
		same(t, "Fresh", x.Fresh(n), true)
		reads(t, x, n, zero)
	}
	frees(t, x, api.OK, 6)
	takes(t, x, 6)
	refusesAlloc(t, x, api.ErrFull)
	same(t, "Writes", d.Counts().Writes, 0)
}

// P11.4: of the greatest device of all, each page once.
func TestAllocUntilNoneIsLeft(t *testing.T) {
	_, p := both(t, api.MaxPages)
	x := begun(t, p)
	same(t, "Spare", p.Spare(), api.MaxPages-2)
	takes(t, x, row(2, api.MaxPages-2)...)
	refusesAlloc(t, x, api.ErrFull)
	same(t, "Spare", p.Spare(), 0)
	setsRoot(t, x, 65535, 256, api.OK)
	writes(t, x, 65535, 5, api.OK)
	writes(t, x, 65536, 5, api.ErrPage)
	commits(t, x, 1)
	same(t, "Meta", p.Meta(), plainMeta(api.Meta{Txn: 1, Root: 65535, Count: 256, High: 65536}))
	x = begun(t, p)
	reads(t, x, 65535, page(5))
	refusesAlloc(t, x, api.ErrFull)
	frees(t, x, api.OK, row(2, api.MaxPages-3)...)
	same(t, "no page for the list", x.Spare(0), false)
	refusesCommit(t, x, api.ErrFull)
}

// P11.4: which error of a Write comes first.
func TestWriteRefuses(t *testing.T) {
	x := begun(t, stuffed(t, 16).p)
	takes(t, x, 10)
	writes(t, x, 10, 1, api.OK)
	for _, b := range [][]byte{nil, {}, page(2)[:511], append(page(2), 0), make([]byte, 1024)} {
		same(t, "of a page that is not in use", x.Write(3, b), api.ErrPage)
		same(t, "of a page above the height", x.Write(11, b), api.ErrPage)
		same(t, "of a page below 2", x.Write(1, b), api.ErrPage)
		same(t, "of a page that is not fresh", x.Write(4, b), api.ErrFresh)
		same(t, "of a page of the list", x.Write(9, b), api.ErrFresh)
		same(t, "of a fresh one", x.Write(10, b), api.ErrSize)
	}
	reads(t, x, 10, page(1))
	reads(t, x, 4, page(3))
}

// P11.4: nothing of it is on the device till it commits.
func TestNothingIsOnTheDevice(t *testing.T) {
	s := stuffed(t, 16)
	was := s.d.Image()
	counts := s.d.Counts()
	x := begun(t, s.p)
	takes(t, x, 10, 11, 12)
	writes(t, x, 10, 7, api.OK)
	writes(t, x, 11, 7, api.OK)
	frees(t, x, api.OK, 2, 4, 11)
	setsRoot(t, x, 10, 2, api.OK)
	sameBytes(t, "Image", s.d.Image(), was)
	same(t, "Writes", s.d.Counts().Writes, counts.Writes)
	same(t, "Syncs", s.d.Counts().Syncs, counts.Syncs)
	same(t, "Meta is the last commit's", s.p.Meta().Txn, 2)
	same(t, "its Root", s.p.Meta().Root, 2)
	reads(t, viewed(t, s.p), 4, page(3))
}

// P11.6: what Root tells, and what SetRoot takes.
func TestRoot(t *testing.T) {
	s := stuffed(t, 16)
	x := begun(t, s.p)
	roots(t, x, 2, 1)
	takes(t, x, 10, 11)
	frees(t, x, api.OK, 11)
	for _, n := range append(noPages(), 3, 8, 9, 11, 12, 13, 15, 16) {
		for _, count := range []int{1, 2, 256} {
			setsRoot(t, x, n, count, api.ErrArg)
		}
	}
	for _, n := range []int{2, 4, 7, 10} {
		for _, count := range []int{math.MinInt, -1, 0, 257, 1 << 32, 1<<32 + 1, math.MaxInt} {
			setsRoot(t, x, n, count, api.ErrArg)
		}
		roots(t, x, 2, 1)
	}
	setsRoot(t, x, 0, 1, api.ErrArg)
	setsRoot(t, x, 0, -1, api.ErrArg)
	setsRoot(t, x, 3, 0, api.ErrArg)
	roots(t, x, 2, 1)
	for _, c := range [][2]int{{4, 1}, {4, 256}, {10, 7}, {7, 2}, {0, 0}, {0, 0}, {2, 200}} {
		setsRoot(t, x, c[0], c[1], api.OK)
		roots(t, x, c[0], c[1])
		same(t, "the last commit's", s.p.Meta().Root, 2)
	}
	frees(t, x, api.OK, 2)
	roots(t, x, 2, 200) // whatever becomes of the page
	setsRoot(t, x, 2, 200, api.ErrArg)
	rollsBack(t, x, api.OK)
	roots(t, begun(t, s.p), 2, 1)
}

// P11.6: Root goes from commit to commit, and is found again by Open.
func TestRootIsKept(t *testing.T) {
	d, p := both(t, 16)
	x := begun(t, p)
	roots(t, x, 0, 0)
	takes(t, x, 2, 3)
	setsRoot(t, x, 3, 256, api.OK)
	commits(t, x, 1)
	for txn := 2; txn < 6; txn++ {
		x = begun(t, p)
		roots(t, x, 3, 256)
		commits(t, x, txn)
		p = opened(t, d)
		same(t, "Meta", p.Meta(), plainMeta(api.Meta{Txn: txn, Root: 3, Count: 256, High: 4}))
	}
	x = begun(t, p)
	setsRoot(t, x, 0, 0, api.OK)
	commits(t, x, 6)
	roots(t, begun(t, p), 0, 0)
}

// isOver holds every call of a transaction that is over.
func isOver(t *testing.T, what string, x *pager.Txn) {
	t.Helper()
	for _, n := range []int{-1, 0, 2, 4, 9, 10, 99} {
		refusesRead(t, x, n, api.ErrOver)
		same(t, what+": Write", x.Write(n, page(1)), api.ErrOver)
		same(t, what+": Write of nothing", x.Write(n, nil), api.ErrOver)
		same(t, what+": Free", x.Free(n), api.ErrOver)
		same(t, what+": Fresh", x.Fresh(n), false)
		same(t, what+": Spare", x.Spare(n), false)
		same(t, what+": SetRoot", x.SetRoot(n, 1), api.ErrOver)
	}
	same(t, what+": SetRoot", x.SetRoot(0, 0), api.ErrOver)
	refusesAlloc(t, x, api.ErrOver)
	refusesCommit(t, x, api.ErrOver)
	rollsBack(t, x, api.ErrOver)
	roots(t, x, 0, 0)
	same(t, what+": Engine", x.Engine(), api.Plain)
	same(t, what+": Size", x.Size(), 512)
}

// Each call of a transaction that is over, behind Commit and Rollback; what goes on in the next one is not touched.
func TestOver(t *testing.T) {
	for _, end := range []func(x *pager.Txn) api.Errno{
		(*pager.Txn).Rollback,
		func(x *pager.Txn) api.Errno { _, e := x.Commit(); return e },
	} {
		s := stuffed(t, 30)
		x := begun(t, s.p)
		takes(t, x, 10)
		writes(t, x, 10, 1, api.OK)
		setsRoot(t, x, 10, 1, api.OK)
		same(t, "the end", end(x), api.OK)
		isOver(t, "over", x)
		y := begun(t, s.p)
		n, _ := y.Alloc()
		writes(t, y, n, 70, api.OK)
		was := look(s.d, s.p)
		isOver(t, "over, another one open", x)
		unchanged(t, "over", look(s.d, s.p), was)
		reads(t, y, n, page(70))
		same(t, "the next one goes on", end(y), api.OK)
		isOver(t, "over still", x)
		isOver(t, "the next one", y)
	}
}

// done is what a transaction may do before it is rolled back.
func done() map[string]func(t *testing.T, x *pager.Txn) {
	return map[string]func(t *testing.T, x *pager.Txn){
		"nothing": func(t *testing.T, x *pager.Txn) {},
		"Alloc":   func(t *testing.T, x *pager.Txn) { takes(t, x, 10, 11) },
		"Alloc of all": func(t *testing.T, x *pager.Txn) {
			takes(t, x, row(10, 20)...)
			refusesAlloc(t, x, api.ErrFull)
		},
		"Write": func(t *testing.T, x *pager.Txn) {
			takes(t, x, 10, 11)
			writes(t, x, 11, 9, api.OK)
		},
		"Free": func(t *testing.T, x *pager.Txn) { frees(t, x, api.OK, 2, 4, 7) },
		"Free of fresh ones": func(t *testing.T, x *pager.Txn) {
			takes(t, x, 10, 11, 12)
			frees(t, x, api.OK, 11, 12)
		},
		"SetRoot": func(t *testing.T, x *pager.Txn) { setsRoot(t, x, 5, 77, api.OK) },
		"a Commit with the Root given back": func(t *testing.T, x *pager.Txn) {
			frees(t, x, api.OK, 2)
			refusesCommit(t, x, api.ErrArg)
		},
		"many a Commit without room": func(t *testing.T, x *pager.Txn) {
			takes(t, x, row(10, 20)...)
			frees(t, x, api.OK, 4)
			for range 40 {
				refusesCommit(t, x, api.ErrFull)
			}
		},
		"Spare": func(t *testing.T, x *pager.Txn) { x.Spare(5) },
		"all of it": func(t *testing.T, x *pager.Txn) {
			takes(t, x, 10, 11)
			frees(t, x, api.OK, 10, 4, 5)
			takes(t, x, 10, 12)
			writes(t, x, 12, 3, api.OK)
			setsRoot(t, x, 12, 3, api.OK)
			frees(t, x, api.OK, 12, 11, 2)
			takes(t, x, 11)
		},
	}
}

// P11.8: all is as it was behind Begin, whatever was done.
func TestRollback(t *testing.T) {
	for what, do := range done() {
		s := stuffed(t, 30)
		was := look(s.d, s.p)
		for range 20 {
			x := begun(t, s.p)
			do(t, x)
			rollsBack(t, x, api.OK)
			unchanged(t, what, look(s.d, s.p), was)
		}
		x := begun(t, s.p)
		roots(t, x, 2, 1)
		for n, want := range map[int][]byte{2: page(1), 4: page(3), 5: page(4), 6: page(5), 7: zero, 9: listPage(0, 3, 8)} {
			reads(t, x, n, want)
			same(t, what+": Fresh", x.Fresh(n), false)
		}
		for _, n := range []int{3, 8, 10, 11, 12} {
			refusesRead(t, x, n, api.ErrPage)
		}
		sameList(t, what+": what may be taken", rest(t, x), row(10, 20))
		s.v.Close()
		sameList(t, what+": what waited is released", rest(t, begun(t, s.p)), append([]int{3, 8}, row(10, 20)...))
		commits(t, begun(t, s.p), 3)
		same(t, what+": Meta", s.p.Meta(), plainMeta(api.Meta{Txn: 3, Root: 2, Count: 1, Free: 3, Listed: 2, High: 10}))
	}
}

// P11.8: views that are opened or closed meanwhile stay so.
func TestRollbackWithViews(t *testing.T) {
	s := stuffed(t, 16)
	x := begun(t, s.p)
	v := viewed(t, s.p)
	takes(t, x, 10)
	s.v.Close()
	sameList(t, "Views", s.p.Views(), []int{2})
	takes(t, x, 11) // nothing is released meanwhile
	rollsBack(t, x, api.OK)
	sameList(t, "Views", s.p.Views(), []int{2})
	reads(t, v, 2, page(1))
	refusesRead(t, s.v, 2, api.ErrOver)
	x = begun(t, s.p)
	takes(t, x, 3, 8, 10) // what the view needed is released now
	w := viewed(t, s.p)
	v.Close()
	rollsBack(t, x, api.OK)
	reads(t, w, 4, page(3))
	sameList(t, "Views", s.p.Views(), []int{2})
	takes(t, begun(t, s.p), 3, 8, 10) // what was released behind Begin stays so
}

// P11.8: a Rollback behind a Begin that has released nothing new, often enough that all marks of the list were used.
func TestRollbackAgainAndAgain(t *testing.T) {
	_, p := both(t, 40)
	for i := range 50 {
		x := begun(t, p)
		got := rest(t, x)
		same(t, "each once", len(slices.Compact(slices.Sorted(slices.Values(got)))), len(got))
		same(t, "Spare", p.Spare(), 38)
		sameList(t, "what may be taken", got, row(2, 38))
		if i%10 == 9 {
			x = begun(t, p)
			takes(t, x, 2, 3)
			frees(t, x, api.OK, 2, 3)
			rollsBack(t, x, api.OK)
		}
	}
}
