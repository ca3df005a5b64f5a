package pager_test

import (
	"fmt"
	"maps"
	"slices"
	"testing"

	"espalier/api"
	"espalier/pager"
	"espalier/plate"
)

// commit is what a device has at a commit: its meta, and each page that is in use, the list's too.
type commit struct {
	meta  api.Meta
	pages map[int][]byte
}

func commitOn(t *testing.T, d *plate.Plate) commit {
	t.Helper()
	c := tell(t, d)
	m := commit{c.meta, map[int][]byte{}}
	image := d.Image()
	for n := 2; n < c.meta.High; n++ {
		if !slices.Contains(c.listed, n) {
			m.pages[n] = image[512*n : 512*n+512]
		}
	}
	return m
}

// finds holds what Open finds on a device against a commit.
func (c commit) finds(t *testing.T, d *plate.Plate) {
	t.Helper()
	p := opened(t, d)
	same(t, "Meta", p.Meta(), c.meta)
	x := begun(t, p)
	roots(t, x, c.meta.Root, c.meta.Count)
	for n := 2; n <= c.meta.High; n++ {
		if b, is := c.pages[n]; is {
			reads(t, x, n, b)
		} else {
			refusesRead(t, x, n, api.ErrPage)
		}
	}
	sameList(t, "what may be taken", rest(t, x), sorted(tell(t, d).listed, row(c.meta.High, d.Pages()-c.meta.High)))
}

// falls are all choices of what stays of so many loose writes: each set of them, alone and with each of them torn in many places.
func falls(loose int) []api.Fall {
	var l []api.Fall
	for set := range 1 << loose {
		var keep []int
		for k := range loose {
			if set>>k&1 == 1 {
				keep = append(keep, k)
			}
		}
		l = append(l, api.Fall{Keep: keep, Torn: -1})
		for torn := range loose {
			if set>>torn&1 == 0 { // a torn one is not kept: the set with it says the same
				for _, at := range []int{1, 12, 19, 20, 36, 40, 100, 508, 509, 511, 512} {
					l = append(l, api.Fall{Keep: keep, Torn: torn, At: at})
				}
			}
		}
	}
	return l
}

// behindFall has the power fail in a Commit behind so many acts, and holds what Open finds: the commit of before, or this one.
func behindFall(t *testing.T, from ready, acts int, f api.Fall, before, after commit) (is api.Meta) {
	t.Helper()
	d, _, x := from(t)
	d.Arm(acts, f)
	refusesCommit(t, x, api.ErrDown)
	d.Start()
	is = tell(t, d).meta
	if is == after.meta {
		after.finds(t, d)
	} else {
		before.finds(t, d)
	}
	if t.Failed() {
		t.Fatalf("behind %d acts, with %+v", acts, f)
	}
	// It goes on from there.
	p := opened(t, d)
	commits(t, begun(t, p), is.Txn+1)
	return is
}

// histories end ahead of a Commit, each with another thing that it may do.
func histories() map[string]ready {
	return map[string]ready{
		"the first one": func(t *testing.T) (*plate.Plate, *pager.Pager, *pager.Txn) {
			d, p := both(t, 12)
			x := begun(t, p)
			takes(t, x, 2, 3, 4)
			writes(t, x, 2, 1, api.OK)
			writes(t, x, 4, 2, api.OK)
			setsRoot(t, x, 2, 1, api.OK)
			return d, p, x
		},
		"one with a list": func(t *testing.T) (*plate.Plate, *pager.Pager, *pager.Txn) {
			s := stuffed(t, 14)
			x := begun(t, s.p)
			frees(t, x, api.OK, 2, 5)
			takes(t, x, 10, 11)
			writes(t, x, 10, 51, api.OK)
			writes(t, x, 11, 52, api.OK)
			setsRoot(t, x, 11, 2, api.OK)
			return s.d, s.p, x
		},
		"one over what was released": func(t *testing.T) (*plate.Plate, *pager.Pager, *pager.Txn) {
			s := stuffed(t, 14)
			s.v.Close()
			x := begun(t, s.p)
			takes(t, x, 3, 8)
			writes(t, x, 3, 61, api.OK)
			writes(t, x, 8, 62, api.OK)
			frees(t, x, api.OK, 4, 6)
			setsRoot(t, x, 3, 2, api.OK)
			return s.d, s.p, x
		},
		"nothing but the list": func(t *testing.T) (*plate.Plate, *pager.Pager, *pager.Txn) {
			s := stuffed(t, 14)
			commits(t, begun(t, s.p), 3)
			return s.d, s.p, begun(t, s.p)
		},
	}
}

// P11.10: the power fails at every act of a Commit, with every choice of what stays.
func TestPowerFailsInCommit(t *testing.T) {
	for what, from := range histories() {
		acts := actsOf(t, from)
		d, _, x := from(t)
		before := commitOn(t, d)
		_, e := x.Commit()
		same(t, what, e, api.OK)
		after := commitOn(t, d)
		same(t, what+": the number", after.meta.Txn, before.meta.Txn+1)
		loose, isMeta := 0, false
		seen := map[int]int{}
		for k, act := range acts {
			if act >= 0 {
				loose++
			}
			isMeta = isMeta || act == 0 || act == 1
			for _, f := range falls(loose) {
				is := behindFall(t, from, k, f, before, after)
				seen[is.Txn]++
				if !isMeta {
					same(t, what+": ahead of its meta page it is not there", is, before.meta)
				} else if slices.Equal(f.Keep, []int{0}) {
					same(t, what+": with its meta page it is there", is, after.meta)
				}
			}
			if act < 0 {
				loose = 0
			}
		}
		if seen[before.meta.Txn] == 0 || seen[after.meta.Txn] == 0 || len(seen) != 2 {
			t.Errorf("%s: found were %v", what, seen)
		}
	}
}

// P11.10: the same of a commit whose list takes several pages, with some of all choices.
func TestPowerFailsInCommitWithALongList(t *testing.T) {
	chances := chance()
	s := state{used: 2*r + 5, free: 3, chain: 2, above: 6, given: 2*r + 2}
	image := s.image(t)
	from := func(t *testing.T) (*plate.Plate, *pager.Pager, *pager.Txn) {
		d, p, x := s.begin(t, image)
		n, _ := x.Alloc()
		writes(t, x, n, 5, api.OK)
		setsRoot(t, x, n, 1, api.OK)
		return d, p, x
	}
	d, _, x := from(t)
	before := commitOn(t, d)
	commits(t, x, 7)
	after := commitOn(t, d)
	same(t, "pages of the list", len(tell(t, d).chain), 3)
	acts := actsOf(t, from)
	for k := range acts {
		for range 40 {
			f := api.Fall{Torn: chances.Intn(6) - 1, At: chances.Intn(513)}
			for n := range 5 {
				if chances.Intn(2) == 0 {
					f.Keep = append(f.Keep, n)
				}
			}
			behindFall(t, from, k, f, before, after)
		}
	}
}

// P11.10: the power fails outside of a Commit: the last one that was answered is there, whatever was done since.
func TestPowerFailsBetween(t *testing.T) {
	for what, do := range done() {
		s := stuffed(t, 30)
		before := commitOn(t, s.d)
		x := begun(t, s.p)
		do(t, x)
		same(t, what+": nothing is loose", s.d.Loose(), 0)
		s.d.Crash(api.Fall{Keep: row(0, 9), Torn: -1})
		s.d.Start()
		before.finds(t, s.d)
	}
}

// P11.10: power that fails again and again, in a history of commits: none that was answered is lost.
func TestPowerFailsAgainAndAgain(t *testing.T) {
	chances := chance()
	d, p := both(t, 24)
	last := commitOn(t, d)
	failed := 0
	for range 600 {
		x := begun(t, p)
		for range chances.Intn(5) {
			if n, e := x.Alloc(); e == api.OK {
				writes(t, x, n, chances.Intn(200), api.OK)
				setsRoot(t, x, n, 1, api.OK)
			}
		}
		for n := range 24 {
			if root, _ := x.Root(); n != root && chances.Intn(4) == 0 {
				x.Free(n)
			}
		}
		f := api.Fall{Torn: chances.Intn(5) - 1, At: chances.Intn(600)}
		for n := range 8 {
			if chances.Intn(2) == 0 {
				f.Keep = append(f.Keep, n)
			}
		}
		d.Arm(chances.Intn(16), f)
		_, e := x.Commit()
		d.Arm(-1, f)
		if e == api.OK || e == api.ErrFull {
			if e == api.OK {
				last = commitOn(t, d)
				continue
			}
			rollsBack(t, x, api.OK)
			continue
		}
		same(t, "Commit", e, api.ErrDown)
		failed++
		d.Start()
		if is := tell(t, d).meta; is.Txn == last.meta.Txn+1 {
			last = commitOn(t, d) // it is there: all that it leads to is safe
		}
		last.finds(t, d)
		p = opened(t, d)
	}
	if failed < 100 || last.meta.Txn < 100 {
		t.Errorf("too little came: %d falls, %d commits", failed, last.meta.Txn)
	}
}

// P11.11: an image that any commit leaves is whole, in a history of pages taken and given back, with views.
func TestPagesAreEachJustOne(t *testing.T) {
	chances := chance()
	for run := range 6 {
		pages := []int{12, 40, 140, 300, 600, 40}[run]
		d, p := both(t, pages)
		inUse := map[int]int{}
		var open []*pager.View
		for txn := 1; txn <= 60; txn++ {
			x := begun(t, p)
			for _, n := range slices.Sorted(maps.Keys(inUse)) {
				if chances.Intn(3) == 0 {
					frees(t, x, api.OK, n)
					delete(inUse, n)
				}
			}
			for range chances.Intn(pages / 2) {
				if !x.Spare(1) {
					break
				}
				n, e := x.Alloc()
				same(t, "Alloc", e, api.OK)
				same(t, fmt.Sprintf("page %d was in use", n), inUse[n], 0)
				inUse[n]++
			}
			if !x.Spare(0) {
				refusesCommit(t, x, api.ErrFull)
				break
			}
			commits(t, x, txn)
			whole(t, d, slices.Sorted(maps.Keys(inUse)))
			if len(open) > 2 {
				open[0].Close()
				open = open[1:]
			}
			if chances.Intn(3) == 0 {
				open = append(open, viewed(t, p))
			}
		}
	}
}
