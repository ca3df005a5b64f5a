package pager_test

import (
	"bytes"
	"fmt"
	"slices"
	"testing"

	"espalier/api"
	"espalier/pager"
	"espalier/plate"
)

// ready makes the same device and transaction each time, ahead of its Commit.
type ready func(t *testing.T) (*plate.Plate, *pager.Pager, *pager.Txn)

// failed is what is safe behind a Commit in which the power fails behind so many acts, of what is loose only that write staying; and the act in which it failed.
func failed(t *testing.T, from ready, acts, keep int) (safe []byte, act string, is bool) {
	t.Helper()
	d, _, x := from(t)
	was := d.Counts()
	d.Arm(acts, api.Fall{Keep: []int{keep}, Torn: -1})
	n, e := x.Commit()
	if e == api.OK {
		return nil, "", false
	}
	same(t, "Commit", e, api.ErrDown)
	same(t, "its number", n, 0)
	c := d.Counts()
	return d.Safe(), fmt.Sprintf("%d writes, %d syncs", c.Writes-was.Writes, c.Syncs-was.Syncs), true
}

// actsOf tells the acts of a Commit in their order: the page of a write, or -1 for a Sync. It replays the Commit for each act, with its write staying and not.
func actsOf(t *testing.T, from ready) []int {
	t.Helper()
	var l []int
	loose, syncs := 0, 0
	for acts := 0; ; acts++ {
		with, act, is := failed(t, from, acts, loose)
		if !is {
			return l
		}
		if act == fmt.Sprintf("%d writes, %d syncs", acts-syncs, syncs+1) {
			syncs++
			loose = 0
			l = append(l, -1)
			continue
		}
		without, _, _ := failed(t, from, acts, -1)
		loose++
		l = append(l, differs(with, without))
	}
}

// differs is the one page that differs; -2, if there is none, or more than one.
func differs(a, b []byte) int {
	page := -2
	for n := range len(a) / 512 {
		if !bytes.Equal(a[512*n:512*n+512], b[512*n:512*n+512]) {
			if page != -2 {
				return -2
			}
			page = n
		}
	}
	return page
}

// P11.7: the acts on the device, in their order.
func TestActsOfCommit(t *testing.T) {
	const sync = -1
	for what, c := range map[string]struct {
		from ready
		want []int
	}{
		"nothing": {func(t *testing.T) (*plate.Plate, *pager.Pager, *pager.Txn) {
			d, p := both(t, 8)
			return d, p, begun(t, p)
		}, []int{sync, 1, sync}},
		"fresh pages, not all written": {func(t *testing.T) (*plate.Plate, *pager.Pager, *pager.Txn) {
			d, p := both(t, 12)
			x := begun(t, p)
			takes(t, x, row(2, 7)...)
			for _, n := range []int{7, 3, 8, 2, 5, 3} {
				writes(t, x, n, n, api.OK)
			}
			frees(t, x, api.OK, 5) // the list has it, and is written there
			return d, p, x
		}, []int{2, 3, 7, 8, 5, sync, 1, sync}},
		"only a list": {func(t *testing.T) (*plate.Plate, *pager.Pager, *pager.Txn) {
			s := stuffed(t, 16)
			x := begun(t, s.p)
			frees(t, x, api.OK, 4)
			return s.d, s.p, x
		}, []int{10, sync, 1, sync}},
		"three pages of a list": {func(t *testing.T) (*plate.Plate, *pager.Pager, *pager.Txn) {
			s := state{used: 2 * r, free: 2, chain: 2, above: 4, given: 2*r - 1}
			d, p, x := s.begin(t, s.image(t))
			takes(t, x, 254)
			writes(t, x, 254, 9, api.OK)
			return d, p, x
		}, []int{254, 255, 256, 257, sync, 1, sync}},
		"a free page for the list, and one above": {func(t *testing.T) (*plate.Plate, *pager.Pager, *pager.Txn) {
			s := state{used: r + 1, free: 1, chain: 1, above: 4, given: r + 1}
			d, p, x := s.begin(t, s.image(t))
			setsRoot(t, x, 0, 0, api.OK)
			return d, p, x
		}, []int{129, 130, sync, 1, sync}},
	} {
		sameList(t, what, actsOf(t, c.from), c.want)
		d, _, x := c.from(t)
		_, e := x.Commit()
		same(t, what, e, api.OK)
		same(t, what+": nothing is loose", d.Loose(), 0)
	}
}

// P11.7: what the pages hold then, and the meta.
func TestCommit(t *testing.T) {
	d, p := both(t, 12)
	d.Write(4, page(99)) // never in use: whatever stands there
	x := begun(t, p)
	takes(t, x, row(2, 6)...)
	writes(t, x, 2, 20, api.OK)
	writes(t, x, 3, 21, api.OK)
	writes(t, x, 3, 22, api.OK)
	writes(t, x, 7, 23, api.OK)
	frees(t, x, api.OK, 6, 7)
	setsRoot(t, x, 3, 17, api.OK)
	commits(t, x, 1)
	m := plainMeta(api.Meta{Txn: 1, Root: 3, Count: 17, Free: 6, Listed: 1, High: 8})
	same(t, "Meta", p.Meta(), m)
	for n, want := range map[int][]byte{0: metaPage(t, api.Meta{High: 2}), 1: metaPage(t, m), 2: page(20), 3: page(22), 4: page(99), 5: zero, 6: listPage(0, 7), 7: zero, 8: zero} {
		sameBytes(t, fmt.Sprintf("page %d", n), d.Safe()[512*n:512*n+512], want)
	}
	whole(t, d, []int{2, 3, 4, 5})
	x = begun(t, p)
	same(t, "what was fresh is not", x.Fresh(2) || x.Fresh(4), false)
	reads(t, x, 3, page(22))
	reads(t, x, 4, page(99)) // nothing was written there: what the device has
	takes(t, x, 7)
	commits(t, x, 2) // the list: 6, which waits; a page is taken for it
	same(t, "Meta", p.Meta(), plainMeta(api.Meta{Txn: 2, Root: 3, Count: 17, Free: 8, Listed: 1, High: 9}))
	sameBytes(t, "page 0", onDevice(d, 0), metaPage(t, p.Meta()))
	sameBytes(t, "page 1 stays", onDevice(d, 1), metaPage(t, m))
	whole(t, d, []int{2, 3, 4, 5, 7})
}

// P11.7: a Commit of nothing is one, too: the list goes from page to page.
func TestCommitOfNothing(t *testing.T) {
	d, p := both(t, 12)
	for i := range 6 {
		commits(t, begun(t, p), i+1)
		same(t, "Meta", p.Meta(), plainMeta(api.Meta{Txn: i + 1, High: 2}))
	}
	x := begun(t, p)
	takes(t, x, 2, 3, 4)
	frees(t, x, api.OK, 3, 4)
	commits(t, x, 7)
	for i, m := range []api.Meta{{Free: 4, Listed: 1}, {Free: 3, Listed: 1}, {Free: 4, Listed: 1}, {Free: 3, Listed: 1}} {
		commits(t, begun(t, p), 8+i)
		same(t, "Meta", p.Meta(), plainMeta(api.Meta{Txn: 8 + i, Free: m.Free, Listed: m.Listed, High: 5}))
		whole(t, d, []int{2})
	}
}

// chunks is what the pages of a list should list: so many each, the last ones fewer or none.
func chunks(l []int, pages int) [][]int {
	var c [][]int
	for range pages {
		k := min(r, len(l))
		c = append(c, l[:k])
		l = l[k:]
	}
	return c
}

// P11.7: lists of none, one and several pages, about the edges, of free pages and of such as wait.
func TestListsOfCommits(t *testing.T) {
	seen := map[int]int{}
	for _, s := range states() {
		image := s.image(t)
		d, p, x := s.begin(t, image)
		setsRoot(t, x, 0, 0, api.OK)
		if n, e := x.Commit(); e == api.ErrFull {
			same(t, "its number", n, 0)
			continue
		}
		what := fmt.Sprintf("%+v: ", s)
		// The list by the chapter's words: pages are taken as long as there are more than these hold.
		isFree := row(2+s.used+s.chain, s.free)
		waits := append(row(2, s.given), row(2+s.used, s.chain)...)
		high := 2 + s.used + s.chain + s.free
		var chain []int
		for len(isFree)+len(waits) > r*len(chain) {
			if len(isFree) > 0 {
				chain, isFree = append(chain, isFree[0]), isFree[1:]
			} else {
				chain = append(chain, high)
				high++
			}
		}
		all := sorted(isFree, waits)
		m := api.Meta{Txn: 7, Listed: len(all), High: high}
		if len(chain) > 0 {
			m.Free = chain[0]
		}
		same(t, what+"Meta", p.Meta(), plainMeta(m))
		sameBytes(t, what+"its page", onDevice(d, 1), metaPage(t, m))
		for i, l := range chunks(all, len(chain)) {
			next := append(chain, 0)[i+1]
			sameBytes(t, fmt.Sprintf("%spage %d of the list", what, i), onDevice(d, chain[i]), listPage(next, l...))
		}
		whole(t, d, row(2+s.given, s.used-s.given))
		seen[len(chain)]++
		if len(chain) > 0 && len(all) <= r*(len(chain)-1) {
			seen[-1]++
		}
		same(t, what+"Meta of Open", opened(t, d).Meta(), plainMeta(m))
	}
	for _, n := range []int{-1, 0, 1, 2, 3} { // -1: one whose last page lists none
		if seen[n] == 0 {
			t.Errorf("no list of %d pages came: %v", n, seen)
		}
	}
}

// P11.7: a page of a greater size lists more.
func TestListsOfOtherSizes(t *testing.T) {
	for _, size := range sizes()[:4] {
		room := (size - 12) / 4
		for _, n := range []int{room - 1, room, room + 1, room + 2} {
			d := plate.New(size, n+20)
			p, _ := pager.Open(d, api.Packed)
			x := begun(t, p)
			takes(t, x, row(2, n)...)
			commits(t, x, 1)
			x = begun(t, p)
			frees(t, x, api.OK, row(2, n)...)
			commits(t, x, 2)
			want := api.Meta{Engine: api.Packed, Page: size, Txn: 2, Free: n + 2, Listed: n, High: n + 3}
			if n > room {
				want.High++
			}
			same(t, fmt.Sprintf("%d pages of %d bytes", n, size), p.Meta(), want)
			q, e := pager.Open(d, api.Packed)
			same(t, "Open", e, api.OK)
			sameList(t, "what may be taken", rest(t, begun(t, q))[:n], row(2, n))
		}
	}
}

// P11.7: the Root must be in use: given back, also fresh, it is not; taken again it is.
func TestCommitWithTheRootGivenBack(t *testing.T) {
	s := stuffed(t, 16)
	x := begun(t, s.p)
	takes(t, x, 10)
	writes(t, x, 10, 8, api.OK)
	frees(t, x, api.OK, 2)
	was := look(s.d, s.p)
	for range 3 {
		refusesCommit(t, x, api.ErrArg)
		unchanged(t, "refused", look(s.d, s.p), was)
	}
	roots(t, x, 2, 1)
	setsRoot(t, x, 10, 2, api.OK)
	frees(t, x, api.OK, 10)
	refusesCommit(t, x, api.ErrArg)
	takes(t, x, 10)
	roots(t, x, 10, 2)
	commits(t, x, 3)
	same(t, "Root", s.p.Meta().Root, 10)
	// ErrArg comes ahead of ErrFull.
	x = begun(t, s.p)
	takes(t, x, row(12, 4)...)
	frees(t, x, api.OK, 10)
	same(t, "Spare", x.Spare(0), false)
	refusesCommit(t, x, api.ErrArg)
	setsRoot(t, x, 0, 0, api.OK)
	refusesCommit(t, x, api.ErrFull)
}

// P11.7: with no room for the list nothing has changed, and the transaction is open still.
func TestCommitWithoutRoom(t *testing.T) {
	s := stuffed(t, 16)
	x := begun(t, s.p)
	takes(t, x, row(10, 6)...)
	writes(t, x, 12, 5, api.OK)
	frees(t, x, api.OK, 4)
	setsRoot(t, x, 12, 9, api.OK)
	was := look(s.d, s.p)
	for range 40 {
		refusesCommit(t, x, api.ErrFull)
		unchanged(t, "refused", look(s.d, s.p), was)
		refusesBegin(t, s.p, api.ErrBusy)
	}
	reads(t, x, 12, page(5))
	reads(t, x, 10, zero)
	reads(t, x, 9, listPage(0, 3, 8))
	refusesRead(t, x, 4, api.ErrPage)
	refusesRead(t, x, 8, api.ErrPage)
	refusesAlloc(t, x, api.ErrFull)
	roots(t, x, 12, 9)
	frees(t, x, api.ErrPage, 9) // the list's pages are what they were
	frees(t, x, api.OK, 11)
	commits(t, x, 3)
	same(t, "Meta", s.p.Meta(), plainMeta(api.Meta{Txn: 3, Root: 12, Count: 9, Free: 11, Listed: 4, High: 16}))
	sameList(t, "the list", tell(t, s.d).listed, []int{3, 4, 8, 9})
	whole(t, s.d, []int{2, 5, 6, 7, 10, 12, 13, 14, 15})
}

// P11.7: what is taken for a list that finds no room, in part free, in part above the height, is all put back.
func TestCommitWithRoomForAPart(t *testing.T) {
	for _, s := range []state{
		{used: 3 * r, free: 1, chain: 2, above: 1, given: 3*r - 1},
		{used: 3 * r, free: 2, chain: 2, above: 0, given: 3*r - 1},
		{used: 3 * r, free: 0, chain: 2, above: 2, given: 3*r - 1},
	} {
		image := s.image(t)
		d, p, x := s.begin(t, image)
		was := look(d, p)
		for range 20 {
			refusesCommit(t, x, api.ErrFull)
			unchanged(t, fmt.Sprintf("%+v", s), look(d, p), was)
		}
		firstFree := 2 + s.used + s.chain
		takes(t, x, row(firstFree, s.free+s.above)...)
		refusesAlloc(t, x, api.ErrFull)
		rollsBack(t, x, api.OK)
		sameList(t, "what may be taken", rest(t, begun(t, p)), row(firstFree, s.free+s.above))
	}
}

// P11.7: behind a Commit what waits is free, unless a view is open; the next transaction takes it.
func TestReleased(t *testing.T) {
	d, p := both(t, 20)
	x := begun(t, p)
	takes(t, x, row(2, 6)...)
	commits(t, x, 1)
	x = begun(t, p)
	frees(t, x, api.OK, 3, 5)
	takes(t, x, 8) // nothing that waits is taken
	commits(t, x, 2)
	whole(t, d, []int{2, 4, 6, 7, 8})
	x = begun(t, p)
	takes(t, x, 3, 5, 10) // 9 is the list's
	commits(t, x, 3)
	whole(t, d, []int{2, 3, 4, 5, 6, 7, 8, 10})
	x = begun(t, p)
	takes(t, x, 9, 12) // 11 is the list's: 9 stood in it
}

// P11.7, P11.11: a history with pages taken and given back in every transaction, on a device that is hardly great enough.
func TestPagesGoRound(t *testing.T) {
	d, p := both(t, 11)
	var inUse []int
	for i := range 60 {
		x := begun(t, p)
		if len(inUse) > 3 {
			frees(t, x, api.OK, inUse[0])
			inUse = inUse[1:]
		}
		n, e := x.Alloc()
		same(t, "Alloc", e, api.OK)
		writes(t, x, n, i, api.OK)
		inUse = append(inUse, n)
		commits(t, x, i+1)
		whole(t, d, inUse)
		for k, n := range inUse {
			reads(t, viewless(t, d), n, page(i+1-len(inUse)+k))
		}
		if slices.Max(inUse) > 10 {
			t.Fatal("above the device:", inUse)
		}
	}
}

// viewless reads a device by a pager of its own, as it would be found if all went down now.
func viewless(t *testing.T, d *plate.Plate) api.Room {
	t.Helper()
	return begun(t, opened(t, loaded(t, d.Safe())))
}
