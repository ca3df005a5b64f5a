package spill_test

import (
	"bytes"
	"fmt"
	"math"
	"slices"
	"testing"

	"espalier/api"
	"espalier/spill"
)

// cuts holds Slice against the chapter: what it answers, and which pages it reads.
func cuts(t *testing.T, what string, r *api.Bench, first, n, from, to int) {
	t.Helper()
	what = fmt.Sprintf("%s: Slice(%d, %d, %d, %d)", what, first, n, from, to)
	var data []byte
	var reads int
	want := api.ErrArg
	if 0 <= from && from <= to && to <= n {
		upto := 0
		if from < to {
			upto = len(cut(make([]byte, to), r.Size()))
		}
		_, data, reads, want = fault(r, first, n, upto)
	}
	was := r.Reads()
	b, e := spill.Slice(r, first, n, from, to)
	same(t, what, e, want)
	same(t, what+": pages read", r.Reads()-was, reads)
	if want != api.OK || from == to {
		same(t, what+": bytes", len(b), 0)
		return
	}
	sameBytes(t, what, b, data[from:to])
}

// near are the places about the ends of the pages of n bytes, and what is none.
func near(page, n int) []int {
	l := []int{math.MinInt, -n, -1, 0, 1, 2, n / 2, n - 2, n - 1, n, n + 1, n + 2, math.MaxInt}
	for end := page - 16; end <= n; end += page - 16 {
		l = append(l, end-1, end, end+1)
	}
	slices.Sort(l)
	return slices.Compact(l)
}

// P9.5: from and to at every place near the ends of pages, in every pairing.
func TestSlice(t *testing.T) {
	for _, page := range sizes() {
		for _, n := range lengths(page) {
			if n > 6*page {
				continue
			}
			r := bench(t, page, 200)
			first, e := spill.Write(r, text(n))
			same(t, "Write", e, api.OK)
			for _, from := range near(page, n) {
				for _, to := range near(page, n) {
					cuts(t, fmt.Sprintf("pages of %d", page), r, first, n, from, to)
				}
			}
		}
	}
}

// P9.5, P9.7: of a value in 133 pages.
func TestSliceOfTheLongest(t *testing.T) {
	r := bench(t, 512, 200)
	first, _ := spill.Write(r, text(65536))
	places := near(512, 65536)
	for i := 0; i+5 < len(places); i += 3 {
		cuts(t, "the longest", r, first, 65536, places[i], places[i+5])
		cuts(t, "the longest", r, first, 65536, places[i], 65536)
		cuts(t, "the longest", r, first, 65536, 0, places[i])
	}
}

// P9.7: Slice is that piece of Read, at all places of a small value.
func TestSliceIsAPieceOfRead(t *testing.T) {
	r := bench(t, 512, 20)
	value := text(530)
	first, _ := spill.Write(r, value)
	for from := 0; from <= 530; from++ {
		for to := from; to <= 530; to += 1 + (to-from)%7 {
			b, e := spill.Slice(r, first, 530, from, to)
			if e != api.OK || !bytes.Equal(b, value[from:to]) {
				t.Fatalf("Slice(%d, %d): %d bytes, %d", from, to, len(b), e)
			}
		}
	}
}

// P9.5: only the pages up to that of the last byte are read, in order.
func TestWhatSliceAsks(t *testing.T) {
	pages := []int{9, 4, 12, 3}
	r := bench(t, 512, 20)
	chain(t, r, text(1900), pages...)
	w := watched(r)
	for _, c := range []struct{ from, to, reads int }{
		{0, 0, 0}, {700, 700, 0}, {1900, 1900, 0}, {0, 1, 1}, {495, 496, 1}, {0, 496, 1}, {496, 497, 2}, {0, 497, 2},
		{991, 992, 2}, {992, 993, 3}, {1487, 1488, 3}, {1488, 1489, 4}, {0, 1900, 4}, {1899, 1900, 4},
	} {
		w.forgets()
		b, e := spill.Slice(w, 9, 1900, c.from, c.to)
		same(t, "Slice", e, api.OK)
		sameBytes(t, "Slice", b, text(1900)[c.from:c.to])
		sameList(t, fmt.Sprintf("what Slice(%d, %d) asks", c.from, c.to), w.asked, rows("read", pages[:c.reads]...))
	}
}

// P9.5: faults of pages behind the last byte are not told; those of pages ahead of the first one are.
func TestSliceOfAChainWithAFault(t *testing.T) {
	pages := []int{9, 4, 12, 3}
	const n = 1900
	for i := range pages {
		next := append(pages, 0)[i+1]
		for what, b := range map[string][]byte{
			"no page": text(512), "of another size": good(next, text(496), 1024), "too few bytes": good(next, text(9), 512),
			"back to the first": good(9, text(496), 512), "no next one": good(0, text(496), 512), "another next one": good(15, text(496), 512),
		} {
			r := bench(t, 512, 20)
			chain(t, r, text(n), pages...)
			lay(t, r, pages[i], b)
			for _, from := range near(512, n) {
				for _, to := range near(512, n) {
					cuts(t, what, r, 9, n, from, to)
				}
			}
			_, e := spill.Slice(r, 9, n, 0, i*496)
			same(t, what+": ahead of the fault", e, api.OK)
			_, e = spill.Slice(r, 9, n, i*496, i*496+1)
			same(t, what+": at the fault", e == api.OK, what == "another next one" && i < 3 || what == "back to the first" && i < 3)
		}
	}
}

// P9.5: the chain is that of n bytes also where only its beginning is read: a page that says no next one is at fault, and one that holds too few.
func TestSliceGoesByTheWholeChain(t *testing.T) {
	r := bench(t, 512, 20)
	chain(t, r, text(496), 5)
	_, e := spill.Slice(r, 5, 497, 0, 1)
	same(t, "a chain that ends too early", e, api.ErrChain)
	_, e = spill.Slice(r, 5, 495, 0, 1)
	same(t, "a page that holds too many", e, api.ErrChain)
	_, e = spill.Slice(r, 5, 496, 0, 1)
	same(t, "its own length", e, api.OK)
	chain(t, r, text(497), 5, 6)
	_, e = spill.Slice(r, 5, 496, 0, 1)
	same(t, "a chain that goes on", e, api.ErrChain)
	_, e = spill.Slice(r, 5, 497, 0, 1)
	same(t, "its own length", e, api.OK)
}

// P9.5: which error comes first: ErrSize, then ErrArg, then a fault; where from is to there is none.
func TestWhichErrorOfSliceComesFirst(t *testing.T) {
	w := watched(bench(t, 512, 20))
	for _, c := range []struct {
		n, from, to int
		want        api.Errno
	}{
		{0, 0, 0, api.ErrSize}, {0, 5, 4, api.ErrSize}, {65537, -1, 9, api.ErrSize}, {65537, 9, 9, api.ErrSize}, {-1, 0, 0, api.ErrSize},
		{9, -1, -1, api.ErrArg}, {9, 10, 10, api.ErrArg}, {9, 3, 2, api.ErrArg}, {9, 0, 10, api.ErrArg}, {9, -1, 4, api.ErrArg},
		{9, math.MinInt, math.MaxInt, api.ErrArg}, {9, math.MaxInt, math.MinInt, api.ErrArg}, {9, math.MinInt, math.MinInt, api.ErrArg}, {9, math.MaxInt, math.MaxInt, api.ErrArg},
		{9, 0, 0, api.OK}, {9, 9, 9, api.OK}, {9, 4, 4, api.OK}, {9, 0, 1, api.ErrPage}, {9, 8, 9, api.ErrPage},
	} {
		b, e := spill.Slice(w, 7, c.n, c.from, c.to)
		same(t, fmt.Sprintf("Slice(7, %d, %d, %d)", c.n, c.from, c.to), e, c.want)
		same(t, "bytes", len(b), 0)
	}
	sameList(t, "what the room was asked", w.asked, []string{"read 7", "read 7"})
}
