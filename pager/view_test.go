package pager_test

import (
	"fmt"
	"slices"
	"testing"

	"espalier/api"
	"espalier/pager"
)

// P11.9: sixty-four, and one more; each one that is closed makes room for one.
func TestSixtyFourViews(t *testing.T) {
	_, p := both(t, 8)
	var l []*pager.View
	for range 64 {
		l = append(l, viewed(t, p))
	}
	for range 3 {
		refusesView(t, p, api.ErrViews)
	}
	l[5].Close()
	l[5].Close()
	l[5].Close()
	l[5] = viewed(t, p)
	refusesView(t, p, api.ErrViews)
	x := begun(t, p) // a transaction is no view
	refusesView(t, p, api.ErrViews)
	commits(t, x, 1)
	refusesView(t, p, api.ErrViews)
	sameList(t, "Views", p.Views(), []int{0})
	for i, v := range l {
		v.Close()
		w := viewed(t, p)
		refusesView(t, p, api.ErrViews)
		want := []int{0, 1}
		if i == 63 {
			want = []int{1}
		}
		sameList(t, "Views", p.Views(), want)
		l[i] = w
	}
	for _, v := range l {
		v.Close()
	}
	sameList(t, "Views", p.Views(), nil)
	for range 64 {
		viewed(t, p)
	}
	refusesView(t, p, api.ErrViews)
}

// P11.2: Views are the commits' numbers, rising, each once.
func TestViews(t *testing.T) {
	_, p := both(t, 8)
	var l []*pager.View
	for txn := 1; txn <= 12; txn++ {
		commits(t, begun(t, p), txn)
		for range txn % 3 {
			l = append(l, viewed(t, p))
		}
	}
	sameList(t, "Views", p.Views(), []int{1, 2, 4, 5, 7, 8, 10, 11})
	commit := func(i int) int { return l[i].Meta().Txn }
	same(t, "the commits", [4]int{commit(0), commit(1), commit(2), commit(11)}, [4]int{1, 2, 2, 11})
	l[1].Close()
	sameList(t, "one of two of commit 2 closed", p.Views(), []int{1, 2, 4, 5, 7, 8, 10, 11})
	l[2].Close()
	sameList(t, "both closed", p.Views(), []int{1, 4, 5, 7, 8, 10, 11})
	l[11].Close()
	l[0].Close()
	l[10].Close()
	sameList(t, "more of them closed", p.Views(), []int{4, 5, 7, 8, 10})
	l[0].Close()
	sameList(t, "closed twice", p.Views(), []int{4, 5, 7, 8, 10})
	same(t, "Meta of a closed one", commit(11), 11)
}

// P11.9: what a view reads: each page from 2 on below its High, as the device has it; no other one.
func TestReadOfAView(t *testing.T) {
	s := stuffed(t, 16)
	w := viewed(t, s.p)
	x := begun(t, s.p)
	takes(t, x, 10, 11, 12)
	writes(t, x, 11, 3, api.OK)
	same(t, "Meta of the first one", s.v.Meta(), plainMeta(api.Meta{Txn: 1, Root: 2, Count: 1, Free: 8, Listed: 1, High: 10}))
	same(t, "Meta of the second one", w.Meta(), s.p.Meta())
	check := func(what string) {
		t.Helper()
		for n, want := range map[int][]byte{2: page(1), 3: page(2), 4: page(3), 5: page(4), 6: page(5), 7: zero, 8: listPage(0, 9)} {
			reads(t, s.v, n, want)
			if n != 3 && n != 8 { // free at the second commit: whatever the device has
				reads(t, w, n, want)
			}
		}
		reads(t, w, 9, listPage(0, 3, 8))
		for _, v := range []*pager.View{s.v, w} {
			for _, n := range append(noPages(), 10, 11, 12, 15, 16) {
				refusesRead(t, v, n, api.ErrPage)
			}
		}
	}
	check("a transaction open")
	commits(t, x, 3)
	check("it has committed")
	v := viewed(t, s.p)
	reads(t, v, 11, page(3))
	refusesRead(t, v, v.Meta().High, api.ErrPage)
}

// P11.9: a view makes nothing, whatever it is handed.
func TestViewMakesNothing(t *testing.T) {
	s := stuffed(t, 16)
	x := begun(t, s.p)
	takes(t, x, 10)
	was := look(s.d, s.p)
	for _, n := range append(noPages(), 2, 3, 9, 10, 11) {
		refusesAlloc(t, s.v, api.ErrState)
		same(t, "Write", s.v.Write(n, page(1)), api.ErrState)
		same(t, "Write of nothing", s.v.Write(n, nil), api.ErrState)
		same(t, "Free", s.v.Free(n), api.ErrState)
		same(t, "Fresh", s.v.Fresh(n), false)
		same(t, "Spare", s.v.Spare(n), false)
	}
	unchanged(t, "behind them all", look(s.d, s.p), was)
}

// isClosed holds every call of a view that is closed.
func isClosed(t *testing.T, v *pager.View, m api.Meta) {
	t.Helper()
	for _, n := range []int{-1, 0, 2, 9, 99} {
		refusesRead(t, v, n, api.ErrOver)
		same(t, "Write", v.Write(n, page(1)), api.ErrOver)
		same(t, "Write of nothing", v.Write(n, nil), api.ErrOver)
		same(t, "Free", v.Free(n), api.ErrOver)
		same(t, "Fresh", v.Fresh(n), false)
		same(t, "Spare", v.Spare(n), false)
	}
	refusesAlloc(t, v, api.ErrOver)
	same(t, "Engine", v.Engine(), api.Plain)
	same(t, "Size", v.Size(), 512)
	same(t, "Meta", v.Meta(), m)
}

// P11.9: calls of a view that is closed, and that others stay open.
func TestClosedView(t *testing.T) {
	s := stuffed(t, 16)
	m := s.v.Meta()
	w := viewed(t, s.p)
	s.v.Close()
	isClosed(t, s.v, m)
	reads(t, w, 2, page(1))
	commits(t, begun(t, s.p), 3)
	s.v.Close()
	isClosed(t, s.v, m)
	reads(t, w, 2, page(1))
	sameList(t, "Views", s.p.Views(), []int{2})
}

// P11.9: a view that is opened while a transaction is open is of the last commit, and needs its pages.
func TestViewWithATransactionOpen(t *testing.T) {
	s := stuffed(t, 16)
	s.v.Close()
	x := begun(t, s.p)
	frees(t, x, api.OK, 4)
	v := viewed(t, s.p)
	frees(t, x, api.OK, 5)
	same(t, "Txn", v.Meta().Txn, 2)
	commits(t, x, 3)
	x = begun(t, s.p)
	takes(t, x, 8, 10, 11) // 3 is the list's; 4, 5 and 9 wait
	for _, n := range []int{8, 10, 11} {
		writes(t, x, n, 80, api.OK)
	}
	commits(t, x, 4)
	reads(t, v, 4, page(3))
	reads(t, v, 5, page(4))
	reads(t, v, 9, listPage(0, 3, 8))
	v.Close()
	sameList(t, "what may be taken", rest(t, begun(t, s.p)), []int{3, 4, 5, 9, 13, 14, 15})
}

// P11.12, P11.7: views of many commits, each commit having other pages: each reads what it read, and what is released goes by the oldest.
func TestViewsOfManyCommits(t *testing.T) {
	d, p := both(t, 60)
	type seen struct {
		v     *pager.View
		n     int // the page that it was made with
		pages map[int][]byte
	}
	var views []seen
	last := 0
	for i := range 12 {
		x := begun(t, p)
		if last != 0 {
			frees(t, x, api.OK, last)
		}
		n, _ := x.Alloc()
		writes(t, x, n, 10+i, api.OK)
		setsRoot(t, x, n, 1, api.OK)
		commits(t, x, i+1)
		last = n
		c := tell(t, d)
		s := seen{viewed(t, p), n, map[int][]byte{n: page(10 + i)}}
		for _, k := range c.chain {
			s.pages[k] = onDevice(d, k)
		}
		views = append(views, s)
	}
	taken := map[int]int{}
	for _, s := range views {
		taken[s.n]++
	}
	same(t, "no page was used twice", len(taken), 12)
	whole(t, d, []int{last})
	// Closed in whatever order, what a page needs is there until the last view that is as old is closed.
	for _, i := range []int{3, 0, 11, 1, 2, 7, 5, 4, 6, 9, 8, 10} {
		for _, s := range views {
			if s.v != nil {
				for n, b := range s.pages {
					reads(t, s.v, n, b)
				}
			}
		}
		views[i].v.Close()
		views[i].v = nil
		oldest := 12
		for k, s := range views {
			if s.v != nil {
				oldest = k
				break
			}
		}
		free := rest(t, begun(t, p))
		for k, s := range views {
			// Commit k + 2 gave page k back: it is free where no view is older than that.
			is := k+2 <= oldest+1
			same(t, fmt.Sprintf("%d closed, page of commit %d is free", i, k+1), slices.Contains(free, s.n), is && s.n != last)
		}
	}
}

// P11.12: all that may be taken is written over, commit by commit, until none is left; the view reads what it did.
func TestViewStays(t *testing.T) {
	s := stuffed(t, 300)
	was := map[int][]byte{}
	for n := 2; n < 9; n++ { // 9 was free at its commit
		was[n], _ = s.v.Read(n)
	}
	mine := []int{2, 4, 5, 6, 7}
	txn := 2
	for s.p.Spare() > 5 {
		x := begun(t, s.p)
		frees(t, x, api.OK, mine...)
		setsRoot(t, x, 0, 0, api.OK)
		mine = nil
		for range 3 {
			n, _ := x.Alloc()
			writes(t, x, n, 100+txn, api.OK)
			mine = append(mine, n)
		}
		txn++
		commits(t, x, txn)
		for n, b := range was {
			reads(t, s.v, n, b)
		}
	}
	same(t, "so many commits at least", txn > 50, true)
	whole(t, s.d, mine)
	s.v.Close()
	takes(t, begun(t, s.p), row(2, 7)...)
}
