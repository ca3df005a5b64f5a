package spill_test

import (
	"bytes"
	"fmt"
	"slices"
	"testing"

	"espalier/api"
	"espalier/spill"
)

// lengths are those about the borders of pages of that size, up to MaxValue.
func lengths(page int) []int {
	hold := page - 16
	var l []int
	for _, n := range []int{1, 2, hold / 2, hold - 1, hold, hold + 1, 2*hold - 1, 2 * hold, 2*hold + 1, 5 * hold, 5*hold + 1, 65535, 65536} {
		if n <= 65536 {
			l = append(l, n)
		}
	}
	return l
}

// P9.3: the pages are as many as there must be, as the chapter lays them, and taken by the bench's order.
func TestWrite(t *testing.T) {
	for _, page := range sizes() {
		for _, n := range lengths(page) {
			what := fmt.Sprintf("Write of %d bytes in pages of %d", n, page)
			r, value := bench(t, page, 200), text(n)
			first, e := spill.Write(r, value)
			same(t, what, e, api.OK)
			same(t, what+": the first page", first, 2)
			pieces := cut(value, page)
			same(t, what+": pages taken", len(r.Taken()), len(pieces))
			same(t, what+": pages read", r.Reads(), 0)
			for i, piece := range pieces {
				next := i + 3
				if i+1 == len(pieces) {
					next = 0
				}
				b, _ := r.Read(i + 2)
				sameBytes(t, what, b, good(next, piece, page))
			}
			goes(t, what, r, first, n)
		}
	}
}

// P9.3
func TestWriteOfTooFewOrTooMany(t *testing.T) {
	for _, page := range sizes() {
		for _, value := range [][]byte{nil, {}, text(65537), text(70000), text(1 << 20)} {
			w := watched(bench(t, page, 300))
			first, e := spill.Write(w, value)
			same(t, "Write", e, api.ErrSize)
			same(t, "the page beside the error", first, 0)
			same(t, "pages taken", len(w.Taken()), 0)
			same(t, "calls of the room", w.calls, 0)
		}
	}
}

// P9.3: with just enough pages to spare, and with one too few.
func TestWriteIntoAFullRoom(t *testing.T) {
	for _, page := range sizes() {
		for _, n := range lengths(page) {
			k := len(cut(text(n), page))
			what := fmt.Sprintf("%d bytes in pages of %d", n, page)
			w := watched(bench(t, page, k+2))
			first, e := spill.Write(w, text(n))
			same(t, what+": just enough", e, api.OK)
			same(t, what+": the first page", first, 2)
			same(t, what+": pages taken", len(w.Taken()), k)

			w = watched(bench(t, page, k+1))
			first, e = spill.Write(w, text(n))
			same(t, what+": one too few", e, api.ErrFull)
			same(t, what+": the page beside the error", first, 0)
			same(t, what+": pages taken", len(w.Taken()), 0)
			same(t, what+": calls of the room", w.calls, 0)
		}
	}
}

// P9.3: what is too long is told ahead of what has no room.
func TestWriteOfTooManyIntoAFullRoom(t *testing.T) {
	r := bench(t, 512, 2)
	_, e := spill.Write(r, text(65537))
	same(t, "too long", e, api.ErrSize)
	_, e = spill.Write(r, nil)
	same(t, "nothing", e, api.ErrSize)
	_, e = spill.Write(r, text(65536))
	same(t, "no page to spare", e, api.ErrFull)
}

// P9.3: the room is asked whether it can, then for all pages, then to write all, in the chain's order.
func TestWhatWriteAsks(t *testing.T) {
	for _, n := range []int{1, 496, 497, 3000, 65536} {
		r := bench(t, 512, 300)
		for _, page := range []int{3, 5, 6, 9} {
			lay(t, r, page, nil)
		}
		k := len(cut(text(n), 512))
		var pages []int
		for page := 2; len(pages) < k; page++ {
			if !r.Fresh(page) {
				pages = append(pages, page)
			}
		}
		w := watched(r)
		first, e := spill.Write(w, text(n))
		same(t, "Write", e, api.OK)
		same(t, "the first page", first, 2)
		want := slices.Concat([]string{fmt.Sprintf("spare %d", k)}, slices.Repeat([]string{"alloc 0"}, k), rows("write", pages...))
		sameList(t, "what the room was asked", w.asked, want)
		l, e := spill.List(w, first, n)
		same(t, "List", e, api.OK)
		sameList(t, "List", l, pages)
	}
}

// P9.3: a room may hand out pages in any order: the chain has the order in which they were taken.
func TestWriteIntoScatteredPages(t *testing.T) {
	order := []int{65535, 2, 40000, 3, 256, 255, 65534}
	for _, n := range []int{1, 496, 497, 3000, 7 * 496} {
		s := &scattered{Bench: bench(t, 512, 65536), order: order}
		pieces := cut(text(n), 512)
		first, e := spill.Write(s, text(n))
		same(t, "Write", e, api.OK)
		same(t, "the first page", first, 65535)
		for i, piece := range pieces {
			next := 0
			if i+1 < len(pieces) {
				next = order[i+1]
			}
			b, _ := s.Read(order[i])
			sameBytes(t, "a page of the chain", b, good(next, piece, 512))
		}
		goes(t, "scattered", s.Bench, first, n)
		l, _ := spill.List(s, first, n)
		sameList(t, "List", l, order[:len(pieces)])
		same(t, "Free", spill.Free(s, first, n), api.OK)
		same(t, "pages behind Free", len(s.Taken()), 0)
	}
}

// P9.3: an error of the room is answered at once, at whichever call it comes; what was taken stays taken.
func TestWriteInARoomThatRefuses(t *testing.T) {
	const n = 2000
	k := len(cut(text(n), 512))
	for fail := range 2 * k {
		w := watched(bench(t, 512, 20))
		w.fail = fail
		first, e := spill.Write(w, text(n))
		same(t, "Write", e, ofTheRoom)
		same(t, "the page beside the error", first, 0)
		same(t, "calls of the room", w.calls, fail+1)
		same(t, "pages that stay taken", len(w.Taken()), min(fail, k))
	}
	w := watched(bench(t, 512, 20))
	w.fail = 2 * k
	_, e := spill.Write(w, text(n))
	same(t, "Write without an error", e, api.OK)
	same(t, "calls of the room", w.calls, 2*k)
}

// P9.3: an error of the room itself, though it said that there is room.
type boaster struct{ *api.Bench }

func (boaster) Spare(int) bool { return true }

func TestWriteInARoomThatBoasts(t *testing.T) {
	r := bench(t, 512, 4)
	first, e := spill.Write(boaster{r}, text(1000))
	same(t, "Write", e, api.ErrFull)
	same(t, "the page beside the error", first, 0)
	sameList(t, "what was taken", r.Taken(), []int{2, 3})
	for _, n := range r.Taken() {
		b, _ := r.Read(n)
		same(t, "what was taken is not written", bytes.Count(b, []byte{0}), 512)
	}
}
