package spill_test

import (
	"slices"
	"testing"

	"espalier/api"
	"espalier/spill"
)

// P9.6: all pages are read, then given back, in the chain's order.
func TestWhatFreeAsks(t *testing.T) {
	pages := []int{9, 4, 12, 3}
	w := watched(bench(t, 512, 20))
	chain(t, w.Bench, text(1900), pages...)
	chain(t, w.Bench, text(600), 8, 5)
	same(t, "Free", spill.Free(w, 9, 1900), api.OK)
	sameList(t, "what the room was asked", w.asked, slices.Concat(rows("read", pages...), rows("free", pages...)))
	sameList(t, "the pages behind Free", w.Taken(), []int{5, 8})
	same(t, "the other chain", goes(t, "the other chain", w.Bench, 8, 600), api.OK)
}

// P9.6: an error of the room at each of its calls is answered at once.
func TestFreeInARoomThatRefuses(t *testing.T) {
	pages := []int{9, 4, 12, 3}
	for fail := range 8 {
		w := watched(bench(t, 512, 20))
		chain(t, w.Bench, text(1900), pages...)
		w.fail = fail
		same(t, "Free", spill.Free(w, 9, 1900), ofTheRoom)
		same(t, "calls of the room", w.calls, fail+1)
		same(t, "pages that are left", len(w.Taken()), 4-max(0, fail-4))
	}
}

// P9.6, P9.7: Free gives back just the pages that Write took, at every size and length.
func TestFreeGivesBackWhatWriteTook(t *testing.T) {
	for _, page := range sizes() {
		for _, n := range lengths(page) {
			r := bench(t, page, 300)
			for _, p := range []int{2, 4, 9, 120} {
				lay(t, r, p, []byte{1})
			}
			first, e := spill.Write(r, text(n))
			same(t, "Write", e, api.OK)
			same(t, "pages taken", len(r.Taken()), 4+len(cut(text(n), page)))
			same(t, "Free", spill.Free(r, first, n), api.OK)
			sameList(t, "the pages behind Free", r.Taken(), []int{2, 4, 9, 120})
		}
	}
}

// P9.6: the error of List is told, and nothing is given back.
func TestFreeOfWhatIsNoChain(t *testing.T) {
	r := bench(t, 512, 20)
	chain(t, r, text(1000), 5, 3, 7)
	for _, n := range []int{1, 496, 497, 992, 993, 999, 1001, 1488, 1489, 65536} {
		faulty(t, "another length", r, 5, n, api.ErrChain)
	}
	faulty(t, "no length", r, 8, 1000, api.ErrPage)
	for _, n := range []int{-1, 0, 65537} {
		same(t, "Free of no length", spill.Free(r, 5, n), api.ErrSize)
	}
	same(t, "Free", spill.Free(r, 5, 1000), api.OK)
	faulty(t, "freed", r, 5, 1000, api.ErrPage)
}
