package pager_test

import (
	"fmt"
	"math"
	"testing"

	"espalier/api"
	"espalier/pager"
	"espalier/plate"
)

// state is how a device and a transaction on it may stand: so many pages are in use, free, the list's, above the height; and so many of those in use are given back in the transaction.
type state struct {
	used, free, chain, above, given int
}

// image lays a state out: page 2 on those in use, behind them those of the list, then the free ones.
func (s state) image(t *testing.T) []byte {
	t.Helper()
	firstList := 2 + s.used
	firstFree := firstList + s.chain
	m := api.Meta{Txn: 6, Listed: s.free, High: firstFree + s.free}
	with := map[int][]byte{}
	left := row(firstFree, s.free)
	for i := range s.chain {
		next := firstList + i + 1
		if i == s.chain-1 {
			next = 0
		}
		k := min(r, len(left))
		with[firstList+i] = listPage(next, left[:k]...)
		left = left[k:]
	}
	if s.chain > 0 {
		m.Free = firstList
	}
	return laid(t, max(4, m.High+s.above), m, with).Image()
}

// begin has a transaction stand so, over a device of that image.
func (s state) begin(t *testing.T, image []byte) (*plate.Plate, *pager.Pager, *pager.Txn) {
	t.Helper()
	d := loaded(t, image)
	p := opened(t, d)
	x := begun(t, p)
	frees(t, x, api.OK, row(2, s.given)...)
	return d, p, x
}

// commitTakes tells, by doing it, whether n pages may be taken and a Commit is not refused then.
func (s state) commitTakes(t *testing.T, image []byte, n int) bool {
	t.Helper()
	_, _, x := s.begin(t, image)
	for range n {
		if _, e := x.Alloc(); e != api.OK {
			same(t, "Alloc", e, api.ErrFull)
			return false
		}
	}
	said := x.Spare(0)
	_, e := x.Commit()
	if e != api.OK {
		same(t, "Commit", e, api.ErrFull)
	}
	same(t, "Spare(0) right ahead of Commit", said, e == api.OK)
	return e == api.OK
}

// states are those about the edges: where the list fills a page or two just, where the pages for it are the last ones.
func states() []state {
	var l []state
	for _, free := range []int{0, 1, 2, 3, 5} {
		for _, above := range []int{0, 1, 2, 3} {
			for _, given := range []int{0, 1, 2} {
				for chain := min(1, free); chain <= 3; chain++ {
					l = append(l, state{given + 1, free, chain, above, given})
				}
			}
		}
	}
	for _, listed := range []int{r - 2, r - 1, r, r + 1, r + 2, r + 3, 2*r - 1, 2 * r, 2*r + 1, 2*r + 2, 2*r + 3} {
		for _, free := range []int{0, 1, 2, 3, 4, r - 1, r, r + 1} {
			for _, above := range []int{0, 1, 2, 3} {
				if listed >= free {
					l = append(l, state{listed - free, free, 2, above, listed - free}, state{listed - free, free, 3, above, max(listed-free-3, 0)})
				}
			}
		}
	}
	return l
}

// P11.5, P11.2, P11.7: Commit does just what Spare said, and Pager's Spare is the greatest n.
func TestSpareIsWhatCommitDoes(t *testing.T) {
	for _, s := range states() {
		image := s.image(t)
		d, p, x := s.begin(t, image)
		left := s.free + s.above
		most := 0
		for n := 0; n <= left+2; n++ {
			// All of them where that is quick; else those about the edge, which is less than six pages below what is left.
			if left > 20 && n > 3 && n < left-6 {
				continue
			}
			want := s.commitTakes(t, image, n)
			same(t, fmt.Sprintf("%+v: Spare(%d)", s, n), x.Spare(n), want)
			if want {
				most = n
			}
		}
		same(t, fmt.Sprintf("%+v: Spare of the pager", s), p.Spare(), most)
		sameBytes(t, "Image", d.Image(), image)
	}
}

// P11.5: any n.
func TestSpareOfAnyNumber(t *testing.T) {
	_, p := both(t, 8)
	x := begun(t, p)
	for _, n := range []int{math.MinInt, math.MinInt + 1, -1 << 32, -7, -1, 0, 1, 5, 6} {
		same(t, fmt.Sprintf("Spare(%d)", n), x.Spare(n), true)
	}
	for _, n := range []int{7, 8, 1 << 31, 1<<32 - 1, 1 << 32, 1<<32 + 1, 1 << 62, math.MaxInt - 1, math.MaxInt} {
		same(t, fmt.Sprintf("Spare(%d)", n), x.Spare(n), false)
	}
	takes(t, x, row(2, 6)...)
	for _, n := range []int{math.MinInt, -1, 0} {
		same(t, fmt.Sprintf("Spare(%d)", n), x.Spare(n), true)
	}
	same(t, "Spare(1)", x.Spare(1), false)
	commits(t, x, 1)
	x = begun(t, p)
	frees(t, x, api.OK, 2)
	for _, n := range []int{math.MinInt, -1, 0, 1, math.MaxInt} {
		same(t, fmt.Sprintf("Spare(%d) without room for the list", n), x.Spare(n), false)
	}
	same(t, "Spare", p.Spare(), 0)
	refusesCommit(t, x, api.ErrFull)
}

// P11.5: whatever the Root is.
func TestSpareWhateverTheRootIs(t *testing.T) {
	s := stuffed(t, 16)
	x := begun(t, s.p)
	frees(t, x, api.OK, 2)
	same(t, "Spare with the Root given back", x.Spare(5), true)
	same(t, "Spare with the Root given back", x.Spare(6), false)
	same(t, "Spare of the pager", s.p.Spare(), 5)
	refusesCommit(t, x, api.ErrArg)
	setsRoot(t, x, 0, 0, api.OK)
	same(t, "Spare", x.Spare(5), true)
	same(t, "Spare", x.Spare(6), false)
	takes(t, x, row(10, 5)...)
	commits(t, x, 3)
}

// P11.2, P11.5: Spare changes nothing, however often it is asked: also not what is to be taken next.
func TestSpareChangesNothing(t *testing.T) {
	s := stuffed(t, 16)
	for range 40 {
		same(t, "Spare", s.p.Spare(), 5)
	}
	x := begun(t, s.p)
	takes(t, x, 10)
	for n := range 40 {
		same(t, "Spare", x.Spare(n), n <= 4)
		same(t, "Spare", s.p.Spare(), 4)
	}
	takes(t, x, 11)
	rollsBack(t, x, api.OK)
	takes(t, begun(t, s.p), 10)
}

// P11.2: Spare without a transaction is that of one that were begun now: what waits is counted if Begin would release it.
func TestSpareWithoutATransaction(t *testing.T) {
	s := stuffed(t, 16)
	spares := func(what string, want int) {
		t.Helper()
		was := look(s.d, s.p)
		same(t, what, s.p.Spare(), want)
		x := begun(t, s.p)
		same(t, what+": of the transaction", s.p.Spare(), want)
		same(t, what+": it has so many", x.Spare(want), true)
		same(t, what+": it has no more", x.Spare(want+1), false)
		rollsBack(t, x, api.OK)
		unchanged(t, what, look(s.d, s.p), was)
	}
	spares("3 and 8 wait for the view", 5) // 10 to 15, one of them for the list
	w := viewed(t, s.p)
	spares("a later view does not matter", 5)
	s.v.Close()
	spares("they would be released", 7)
	w.Close()
	spares("they would be released", 7)
	x := begun(t, s.p)
	takes(t, x, 3)
	w = viewed(t, s.p)
	frees(t, x, api.OK, 4)
	same(t, "4 waits", s.p.Spare(), 6)
	commits(t, x, 3) // 8 is taken for the list: 4 and 9 wait
	spares("4 and 9 wait for a view", 5)
	v := viewed(t, s.p)
	spares("4 and 9 wait for a view", 5)
	w.Close()
	spares("behind the Close", 7)
	v.Close()
	spares("behind both", 7)
}

// P11.2: a view that is closed while a transaction is open: its Spare goes by what is released, which is nothing meanwhile.
func TestSpareWithAViewClosedMeanwhile(t *testing.T) {
	s := stuffed(t, 16)
	x := begun(t, s.p)
	s.v.Close()
	same(t, "Spare of the pager", s.p.Spare(), 5)
	same(t, "Spare", x.Spare(5), true)
	same(t, "Spare", x.Spare(6), false)
	takes(t, x, row(10, 5)...)
	same(t, "Spare", x.Spare(0), true)
	rollsBack(t, x, api.OK)
	same(t, "Spare behind the Rollback", s.p.Spare(), 7)
}
