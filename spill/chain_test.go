package spill_test

import (
	"bytes"
	"fmt"
	"math"
	"testing"

	"espalier/api"
	"espalier/spill"
)

// P9.4: chains of every size and of all lengths about the borders of pages.
func TestRead(t *testing.T) {
	for _, page := range sizes() {
		for _, n := range lengths(page) {
			r := bench(t, page, 400)
			var pages []int
			for i := range cut(text(n), page) {
				pages = append(pages, 399-2*i)
			}
			chain(t, r, text(n), pages...)
			same(t, "a good chain", goes(t, "a good chain", r, 399, n), api.OK)
			b, _ := spill.Read(r, 399, n)
			sameBytes(t, "Read", b, text(n))
			l, _ := spill.List(r, 399, n)
			sameList(t, "List", l, pages)
		}
	}
}

// P9.4: every length of a value that takes up to four pages, read with it and with the lengths beside it.
func TestReadOfEveryLength(t *testing.T) {
	value := text(4*496 + 3)
	for n := 1; n <= len(value); n++ {
		r := bench(t, 512, 20)
		first, e := spill.Write(r, value[:n])
		same(t, "Write", e, api.OK)
		for d := -2; d <= 2; d++ {
			if n+d >= 1 {
				e := goes(t, "a length beside", r, first, n+d)
				same(t, "only its own length", e == api.OK, d == 0)
			}
		}
	}
}

// P9.4: a number of bytes that no value has is told ahead of all else, and nothing is read.
func TestReadOfNoLength(t *testing.T) {
	for _, page := range sizes() {
		r := bench(t, page, 200)
		first, _ := spill.Write(r, text(65536))
		for _, at := range []int{first, 0, -1, 190, math.MaxInt} {
			for _, n := range []int{math.MinInt, -65536, -1, 0, 65537, 65538, 1 << 32, 1<<32 + 1, math.MaxInt} {
				b, e := spill.Read(r, at, n)
				same(t, "Read", e, api.ErrSize)
				same(t, "bytes beside the error", len(b), 0)
				l, e := spill.List(r, at, n)
				same(t, "List", e, api.ErrSize)
				same(t, "pages beside the error", len(l), 0)
				same(t, "Free", spill.Free(r, at, n), api.ErrSize)
				b, e = spill.Slice(r, at, n, 0, 1)
				same(t, "Slice", e, api.ErrSize)
				same(t, "bytes beside the error", len(b), 0)
			}
		}
		same(t, "pages read", r.Reads(), 0)
		same(t, "65536 bytes", goes(t, "65536 bytes", r, first, 65536), api.OK)
	}
}

// P9.4: pages that are not there, at every place of the chain: the room's error is handed on.
func TestReadOfAPageThatIsNotThere(t *testing.T) {
	for _, at := range []int{math.MinInt, -1, 0, 1, 2, 19, 20, 65536, math.MaxInt} {
		faulty(t, "nothing there", bench(t, 512, 20), at, 500, api.ErrPage)
	}
	for i := range 4 {
		r := bench(t, 512, 20)
		chain(t, r, text(1900), 9, 4, 12, 3)
		same(t, "Free of one page", r.Free([]int{9, 4, 12, 3}[i]), api.OK)
		faulty(t, fmt.Sprintf("page %d is not there", i), r, 9, 1900, api.ErrPage)
	}
}

// P9.4, P9.6: an error of the room at each of its reads is answered at once.
func TestReadInARoomThatRefuses(t *testing.T) {
	pages := []int{9, 4, 12, 3}
	r := bench(t, 512, 20)
	chain(t, r, text(1900), pages...)
	for i := range pages {
		for what, call := range map[string]func(w *witness) (int, api.Errno){
			"Read": func(w *witness) (int, api.Errno) {
				b, e := spill.Read(w, 9, 1900)
				return len(b), e
			},
			"List": func(w *witness) (int, api.Errno) {
				l, e := spill.List(w, 9, 1900)
				return len(l), e
			},
			"Slice": func(w *witness) (int, api.Errno) {
				b, e := spill.Slice(w, 9, 1900, 1, 1899)
				return len(b), e
			},
			"Free": func(w *witness) (int, api.Errno) { return 0, spill.Free(w, 9, 1900) },
		} {
			w := watched(r)
			w.fail = i
			n, e := call(w)
			same(t, what, e, ofTheRoom)
			same(t, what+": what stands beside the error", n, 0)
			sameList(t, what+": what the room was asked", w.asked, rows("read", pages[:i+1]...))
		}
	}
	sameList(t, "the pages behind all", r.Taken(), []int{3, 4, 9, 12})
}

// P9.4: each page is read once, in the chain's order, and nothing else is asked.
func TestWhatReadAsks(t *testing.T) {
	pages := []int{9, 4, 12, 3}
	r := bench(t, 512, 20)
	chain(t, r, text(1900), pages...)
	w := watched(r)
	spill.Read(w, 9, 1900)
	sameList(t, "Read", w.asked, rows("read", pages...))
	w.forgets()
	spill.List(w, 9, 1900)
	sameList(t, "List", w.asked, rows("read", pages...))
}

// P9.4: a page that stood in the chain before is a fault, and it is not read again.
func TestReadOfAChainThatLeadsBack(t *testing.T) {
	pages := []int{9, 4, 12, 3, 7}
	for from := range pages {
		for to := range from + 1 {
			r := bench(t, 512, 20)
			chain(t, r, text(5*496), pages...)
			lay(t, r, pages[from], good(pages[to], text(496), 512))
			for _, n := range []int{5*496 - 1, 5 * 496, 5*496 + 1, 7 * 496, 65536} {
				if from+1 < len(cut(text(n), 512)) {
					faulty(t, "a chain that leads back", r, 9, n, api.ErrChain)
				}
			}
			w := watched(r)
			spill.Read(w, 9, 65536)
			sameList(t, "pages that are read", w.asked, rows("read", pages[:from+1]...))
		}
	}
}

// P9.4: that a page stood in the chain before is told ahead of what else is wrong with it: here the room would refuse it, were it read again.
type once struct {
	*api.Bench
	read map[int]int
}

func (o *once) Read(n int) ([]byte, api.Errno) {
	o.read[n]++
	if o.read[n] > 1 {
		return nil, ofTheRoom
	}
	return o.Bench.Read(n)
}

func TestThatAPageComesAgainIsToldFirst(t *testing.T) {
	r := bench(t, 512, 20)
	lay(t, r, 2, good(3, text(496), 512))
	lay(t, r, 3, good(2, text(496), 512))
	_, e := spill.Read(&once{r, map[int]int{}}, 2, 3*496)
	same(t, "Read", e, api.ErrChain)
}

// P9.4: a chain that is shorter or longer than its bytes need, at every place.
func TestReadOfAChainThatIsTooShortOrTooLong(t *testing.T) {
	pages := []int{9, 4, 12, 3, 7}
	for i := range pages {
		r := bench(t, 512, 20)
		chain(t, r, text(5*496), pages...)
		lay(t, r, pages[i], good(0, text(496), 512))
		for k := 1; k <= 6; k++ {
			e := goes(t, "the chain ends", r, 9, k*496)
			same(t, fmt.Sprintf("a chain of %d pages for %d", i+1, k), e == api.OK, k == i+1)
		}
		r = bench(t, 512, 20)
		chain(t, r, text((i+1)*496), pages[:i+1]...)
		lay(t, r, pages[i], good(15, text(496), 512))
		for k := 1; k <= 6; k++ {
			want := api.ErrChain
			if k > i+1 {
				want = api.ErrPage
			}
			faulty(t, fmt.Sprintf("a chain of %d pages that goes on, for %d", i+1, k), r, 9, k*496, want)
		}
	}
}

// P9.4: pages that hold fewer bytes than they must, at every place; the last one more, too.
func TestReadOfPagesThatHoldAnotherNumber(t *testing.T) {
	pages := []int{9, 4, 12}
	for i := range pages {
		for _, n := range []int{1, 2, 99, 100, 101, 494, 495, 496} {
			r := bench(t, 512, 20)
			chain(t, r, text(2*496+100), pages...)
			next := append(pages, 0)[i+1]
			lay(t, r, pages[i], good(next, text(n), 512))
			e := goes(t, "another number", r, 9, 2*496+100)
			right := 496
			if i == 2 {
				right = 100
			}
			same(t, fmt.Sprintf("page %d holds %d", i, n), e == api.OK, n == right)
		}
	}
}

// P9.4: pages that are spoilt or of another size, at every place.
func TestReadOfPagesThatAreNone(t *testing.T) {
	pages := []int{9, 4, 12}
	for i := range pages {
		next := append(pages, 0)[i+1]
		right := good(next, text(496), 512)
		spoilt := bytes.Clone(right)
		spoilt[300]++
		for what, b := range map[string][]byte{
			"nothing": nil, "zeros": make([]byte, 512), "no page": text(500), "a byte changed": spoilt, "cut": right[:511],
			"a page of another size": good(next, text(496), 1024), "its first half": right[:256], "no bytes": laid(next, 0, nil, 512),
			"too many": laid(next, 497, text(496), 512), "a meta page as the next": laid(1, 496, text(496), 512),
			"another kind": summed(append([]byte{2, 1}, right[2:]...)), "a byte more": append(bytes.Clone(right), 0),
		} {
			r := bench(t, 512, 20)
			chain(t, r, text(3*496), pages...)
			lay(t, r, pages[i], b)
			faulty(t, what, r, 9, 3*496, api.ErrCorrupt)
			// Of a chain that is wrong in its length at that page too, the page's own fault is told first.
			faulty(t, what+", at the end", r, 9, i*496+9, api.ErrCorrupt)
		}
	}
}

// P9.4: of two faults the one of the page that comes first is told.
func TestTheFirstFaultIsTold(t *testing.T) {
	spoil := map[string]func(t *testing.T, r *api.Bench, page, next int) api.Errno{
		"not there": func(t *testing.T, r *api.Bench, page, next int) api.Errno {
			r.Free(page)
			return api.ErrPage
		},
		"no page": func(t *testing.T, r *api.Bench, page, next int) api.Errno {
			lay(t, r, page, text(512))
			return api.ErrCorrupt
		},
		"too few bytes": func(t *testing.T, r *api.Bench, page, next int) api.Errno {
			lay(t, r, page, good(next, text(9), 512))
			return api.ErrChain
		},
		"itself": func(t *testing.T, r *api.Bench, page, next int) api.Errno {
			lay(t, r, page, good(page, text(496), 512))
			return api.ErrChain
		},
	}
	pages := []int{9, 4, 12, 3}
	for i := range pages {
		for j := range i {
			for one, first := range spoil {
				for two, second := range spoil {
					r := bench(t, 512, 20)
					chain(t, r, text(4*496), pages...)
					second(t, r, pages[i], append(pages, 0)[i+1])
					want := first(t, r, pages[j], pages[j+1])
					faulty(t, fmt.Sprintf("%s at %d, %s at %d", one, j, two, i), r, 9, 4*496, want)
				}
			}
		}
	}
}

// P9.4: two values side by side, and one that leads into another's last page.
func TestChainsThatMeet(t *testing.T) {
	r := bench(t, 512, 20)
	chain(t, r, text(900), 2, 3)
	lay(t, r, 5, good(3, text(900)[:496], 512))
	same(t, "the one", goes(t, "the one", r, 2, 900), api.OK)
	same(t, "the other", goes(t, "the other", r, 5, 900), api.OK)
	same(t, "the end of both", goes(t, "the end of both", r, 3, 404), api.OK)
}
