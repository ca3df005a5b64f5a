package free_test

import (
	"fmt"
	"math"
	"slices"
	"testing"

	"espalier/api"
)

const mostTxn = 1 << 40

// P10.1: in any order, at the edges of what a page's number may be, none at all.
func TestNew(t *testing.T) {
	for _, pages := range [][]int{nil, {}, {2}, {65535}, {65535, 2}, {2, 3, 4}, {4, 3, 2}, {7, 65535, 64, 63, 128, 127, 2, 300}} {
		l := list(t, pages...)
		sorted := slices.Sorted(slices.Values(pages))
		stands(t, "New of "+brief(pages), l, sorted, nil)
		takes(t, l, sorted...)
		takesNone(t, l)
	}
	for _, pages := range [][]int{nil, {}} {
		l := list(t, pages...)
		takesNone(t, l)
		gives(t, l, 2, 0, api.OK)
		takes(t, l, 2)
	}
}

// P10.1: numbers that are none, wherever they stand.
func TestNewOfNoNumber(t *testing.T) {
	for _, n := range noNumbers() {
		refusesNew(t, api.ErrPage, n)
		refusesNew(t, api.ErrPage, n, 2, 3)
		refusesNew(t, api.ErrPage, 2, n, 3)
		refusesNew(t, api.ErrPage, 2, 3, n)
		refusesNew(t, api.ErrPage, n, n)
	}
}

// P10.1
func TestNewOfAPageTwice(t *testing.T) {
	for _, n := range []int{2, 3, 63, 64, 65, 300, 65534, 65535} {
		refusesNew(t, api.ErrTwice, n, n)
		refusesNew(t, api.ErrTwice, n, 9, n)
		refusesNew(t, api.ErrTwice, 8, n, 9, 10, n)
		refusesNew(t, api.ErrTwice, n, n, 9)
	}
	refusesNew(t, api.ErrTwice, append(row(2, 65534), 30000)...)
}

// P10.1, R5: a number that is none is told ahead of a page that stands there twice, also where it stands behind it.
func TestNewOfBoth(t *testing.T) {
	for _, n := range noNumbers() {
		refusesNew(t, api.ErrPage, 4, 4, n)
		refusesNew(t, api.ErrPage, 4, n, 4)
		refusesNew(t, api.ErrPage, n, 4, 4)
	}
}

// P10.1, P10.2: all pages that there may be.
func TestEveryPage(t *testing.T) {
	all := row(2, 65534)
	mixed := slices.Clone(all)
	chance().Shuffle(len(mixed), func(i, j int) { mixed[i], mixed[j] = mixed[j], mixed[i] })
	l := list(t, mixed...)
	stands(t, "all", l, all, nil)
	takes(t, l, all...)
	takesNone(t, l)
	stands(t, "none", l, nil, nil)
	for i, n := range mixed {
		gives(t, l, n, i%3, api.OK)
	}
	same(t, "Release", l.Release(2), 21845+21845-1)
	takes(t, l, all...)
	takesNone(t, l)
}

// P10.2: what is taken is not in the list any more, and may be given again.
func TestTake(t *testing.T) {
	l := list(t, 40, 20, 30)
	takes(t, l, 20)
	stands(t, "one taken", l, []int{30, 40}, nil)
	gives(t, l, 20, 0, api.OK)
	takes(t, l, 20)
	gives(t, l, 50, 0, api.OK)
	gives(t, l, 35, 0, api.OK)
	takes(t, l, 30, 35, 40, 50)
	takesNone(t, l)
	takesNone(t, l)
	stands(t, "all taken", l, nil, nil)
	gives(t, l, 20, 0, api.OK)
	takes(t, l, 20)
	takesNone(t, l)
}

// P10.2: a page that waits is not taken, however low it is.
func TestTakeLeavesWhatWaits(t *testing.T) {
	l := list(t, 10)
	gives(t, l, 2, 1, api.OK)
	gives(t, l, 65535, mostTxn, api.OK)
	takes(t, l, 10)
	takesNone(t, l)
	stands(t, "both wait", l, nil, []int{2, 65535})
	l.Release(1)
	takes(t, l, 2)
	takesNone(t, l)
}

// P10.3: every number about the edges, with pages that are not there, that are free, that wait, that were taken.
func TestGive(t *testing.T) {
	txns := []int{math.MinInt, -mostTxn, -2, -1, 0, 1, 2, mostTxn - 1, mostTxn, mostTxn + 1, 1 << 41, 1 << 62, math.MaxInt}
	pages := append(noNumbers(), 2, 3, 4, 5, 6, 63, 64, 65534, 65535)
	for _, page := range pages {
		for _, txn := range txns {
			l := list(t, 3, 5, 65534)
			takes(t, l, 3)
			gives(t, l, 4, 7, api.OK)
			gives(t, l, 6, mostTxn, api.OK)
			m := &model{with: map[int]int{5: 0, 65534: 0, 4: 7, 6: mostTxn}}
			gives(t, l, page, txn, m.give(page, txn))
			stands(t, fmt.Sprintf("behind Give(%d, %d)", page, txn), l, m.free(), m.waiting())
			gives(t, l, page, txn, m.give(page, txn))
			stands(t, "and again", l, m.free(), m.waiting())
		}
	}
}

// P10.3, R4: what is refused changes nothing, neither whether a page is free nor with what it waits.
func TestGiveThatIsRefused(t *testing.T) {
	l := list(t, 4)
	gives(t, l, 5, 9, api.OK)
	for _, txn := range []int{0, 1, 8, 10, mostTxn} {
		gives(t, l, 4, txn, api.ErrTwice)
		gives(t, l, 5, txn, api.ErrTwice)
	}
	stands(t, "as before", l, []int{4}, []int{5})
	same(t, "Release(8)", l.Release(8), 0)
	same(t, "Release(9)", l.Release(9), 1)
	stands(t, "released", l, []int{4, 5}, nil)
}

// P10.4: numbers with which pages wait, and those beside, the least int and the greatest.
func TestRelease(t *testing.T) {
	waits := map[int]int{2: 1, 3: 1, 4: 2, 5: 7, 6: 7, 7: 7, 8: 8, 9: 10, 10: mostTxn - 1, 65535: mostTxn}
	for _, oldest := range []int{math.MinInt, -mostTxn, -1, 0, 1, 2, 3, 6, 7, 8, 9, 10, 11, mostTxn - 2, mostTxn - 1, mostTxn, mostTxn + 1, math.MaxInt} {
		l := list(t, 20, 30)
		m := &model{with: map[int]int{20: 0, 30: 0}}
		for page, txn := range waits {
			gives(t, l, page, txn, m.give(page, txn))
		}
		what := fmt.Sprintf("Release(%d)", oldest)
		same(t, what, l.Release(oldest), m.release(oldest))
		stands(t, what, l, m.free(), m.waiting())
		same(t, what+" again", l.Release(oldest), 0)
		stands(t, what+" again", l, m.free(), m.waiting())
		takes(t, l, m.free()...)
		takesNone(t, l)
		sameList(t, what+": the others wait still", l.Waiting(), m.waiting())
	}
}

// P10.4: one number behind the other, and where nothing waits.
func TestReleaseStepByStep(t *testing.T) {
	l := list(t)
	same(t, "Release of an empty list", l.Release(math.MaxInt), 0)
	gives(t, l, 9, 0, api.OK)
	same(t, "Release of a free page", l.Release(math.MaxInt), 0)
	for n := 10; n < 50; n++ {
		gives(t, l, n, 60-n, api.OK)
	}
	for oldest := 9; oldest < 52; oldest++ {
		want := 0
		if 10 < oldest && oldest <= 50 {
			want = 1
		}
		same(t, fmt.Sprintf("Release(%d)", oldest), l.Release(oldest), want)
	}
	stands(t, "all released", l, row(9, 41), nil)
}

// P10.5: they rise, and change nothing, however often they are asked.
func TestListsRiseAndChangeNothing(t *testing.T) {
	l := list(t)
	for range 3 {
		stands(t, "of nothing", l, nil, nil)
	}
	var isFree, waiting []int
	r := chance()
	for _, n := range r.Perm(600) {
		if n < 2 {
			continue
		}
		txn := max(0, r.Intn(9)-4)
		gives(t, l, n*109, txn, api.OK)
		if txn == 0 {
			isFree = append(isFree, n*109)
		} else {
			waiting = append(waiting, n*109)
		}
	}
	slices.Sort(isFree)
	slices.Sort(waiting)
	for range 3 {
		stands(t, "of many", l, isFree, waiting)
	}
	same(t, "released", l.Release(4), len(waiting))
	sameList(t, "all free now", l.Free(), l.All())
	takes(t, l, l.All()...)
}
