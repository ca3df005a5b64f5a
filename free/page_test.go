package free_test

import (
	"bytes"
	"fmt"
	"slices"
	"testing"

	"espalier/api"
	"espalier/free"
)

// P10.7
func TestRoom(t *testing.T) {
	for page, want := range map[int]int{512: 125, 1024: 253, 2048: 509, 4096: 1021, 8192: 2045, 16384: 4093, 32768: 8189, 65536: 16381} {
		same(t, fmt.Sprintf("Room(%d)", page), free.Room(page), want)
	}
	for _, page := range oddSizes() {
		same(t, fmt.Sprintf("Room(%d)", page), free.Room(page), 0)
	}
	for page := -600; page < 70000; page++ {
		if !isSize(page) {
			same(t, fmt.Sprintf("Room(%d)", page), free.Room(page), 0)
		}
	}
}

// wantEncode is what Encode should answer.
func wantEncode(next int, pages []int, page int) api.Errno {
	if !isSize(page) {
		return api.ErrArg
	}
	if next != 0 && !isNumber(next) {
		return api.ErrPage
	}
	if len(pages) > (page-12)/4 {
		return api.ErrLong
	}
	for i, n := range pages {
		if !isNumber(n) {
			return api.ErrPage
		}
		if i > 0 && n <= pages[i-1] {
			return api.ErrOrder
		}
	}
	return api.OK
}

func encodes(t *testing.T, next int, pages []int, page int) api.Errno {
	t.Helper()
	what := fmt.Sprintf("Encode(%d, %d pages, %d)", next, len(pages), page)
	b, e := free.Encode(next, pages, page)
	same(t, what, e, wantEncode(next, pages, page))
	if e != api.OK {
		same(t, what+": bytes beside the error", len(b), 0)
		return e
	}
	sameBytes(t, what, b, good(next, pages, page))
	back, held, e := free.Decode(b)
	same(t, what+", decoded", e, api.OK)
	same(t, what+", decoded: next", back, next)
	sameList(t, what+", decoded", held, pages)
	return api.OK
}

func someNexts() []int { return append(noNumbers(), 2, 3, 255, 256, 300, 65534, 65535) }

// P10.8, P10.9: at every size, and at those that there are not, no page, one, just Room, one more, with every next: in every pairing, so that the first of several errors is seen.
func TestEncode(t *testing.T) {
	for _, page := range append(oddSizes(), sizes()...) {
		counts := []int{0, 1, 2, 125, 126, 16381, 16382}
		if room := (page - 12) / 4; isSize(page) {
			counts = append(counts, room-1, room, room+1)
		}
		for _, n := range counts {
			rising := row(2, n)
			encodes(t, 7, row(65536-n, n), page)
			for _, next := range someNexts() {
				encodes(t, next, rising, page)
			}
			for _, wrong := range wrongRows(n) {
				for _, next := range []int{-1, 0, 1, 2, 65535, 65536} {
					encodes(t, next, wrong, page)
				}
			}
		}
		encodes(t, 2, nil, page)
		encodes(t, 2, []int{}, page)
	}
}

// wrongRows are so many pages, of which one is not right: none that there may be, twice, or falling.
func wrongRows(n int) [][]int {
	if n < 2 {
		return nil
	}
	var l [][]int
	for _, at := range []int{0, n / 2, n - 1} {
		for _, with := range []int{-1, 0, 1, 65536, 1 << 32} {
			l = append(l, slices.Clone(row(2, n)))
			l[len(l)-1][at] = with
		}
	}
	twice, falling := row(2, n), row(2, n)
	twice[n-1] = twice[n-2]
	slices.Reverse(falling)
	return append(l, twice, falling)
}

// P10.8: page by page: of what is wrong the first page's fault is told, whichever fault it is.
func TestEncodeTellsTheFirstFault(t *testing.T) {
	for _, c := range []struct {
		pages []int
		want  api.Errno
	}{
		{[]int{5, 4, 1}, api.ErrOrder},
		{[]int{5, 1, 4}, api.ErrPage},
		{[]int{1, 5, 4}, api.ErrPage},
		{[]int{5, 5, 65536}, api.ErrOrder},
		{[]int{5, 65536, 5}, api.ErrPage},
		{[]int{2, 3, 3, 0}, api.ErrOrder},
		{[]int{2, 3, 0, 3}, api.ErrPage},
		{[]int{65535, 65535}, api.ErrOrder},
		{[]int{65535, 65536}, api.ErrPage},
		{[]int{65535, 2}, api.ErrOrder},
		{[]int{2, 2}, api.ErrOrder},
		{[]int{2, 1}, api.ErrPage},
		{[]int{3, 2}, api.ErrOrder},
		{[]int{2, 65535}, api.OK},
		{[]int{2}, api.OK},
		{[]int{65535}, api.OK},
	} {
		for _, page := range sizes() {
			same(t, fmt.Sprint("Encode of ", c.pages), encodes(t, 0, c.pages, page), c.want)
		}
	}
}

// P10.8: every next that may be and those beside, and every page.
func TestEncodeOfEveryNumber(t *testing.T) {
	for n := -3; n <= 65540; n++ {
		encodes(t, n, []int{9}, 512)
		encodes(t, 0, []int{n}, 512)
	}
}

// P10.8: a page may list its next one; nothing says that it may not.
func TestEncodeOfItsNext(t *testing.T) {
	same(t, "Encode", encodes(t, 9, []int{8, 9, 10}, 512), api.OK)
}

// decodes holds Decode against the chapter's table.
func decodes(t *testing.T, what string, b []byte) bool {
	t.Helper()
	next, pages, is := said(b)
	gotNext, got, e := free.Decode(b)
	if !is {
		same(t, what, e, api.ErrCorrupt)
		same(t, what+": next beside the error", gotNext, 0)
		same(t, what+": pages beside the error", len(got), 0)
		return false
	}
	same(t, what, e, api.OK)
	same(t, what+": next", gotNext, next)
	sameList(t, what, got, pages)
	return true
}

// P10.9: what has no page's length, or a page's length and nothing else.
func TestDecodeOfNoPage(t *testing.T) {
	decodes(t, "nil", nil)
	for n := range 1030 {
		decodes(t, fmt.Sprintf("%d zeros", n), make([]byte, n))
		b := append([]byte{5, 0, 0, 1, 0, 0, 0, 0, 0, 0, 0, 9}, make([]byte, n)...)
		if n >= 4 {
			is := decodes(t, "a head and so many zeros, with the sum", summed(b))
			same(t, "that is a page", is, len(b) == 512 || len(b) == 1024)
		}
		decodes(t, "cut", b[:min(n, 12)])
	}
	for _, page := range sizes() {
		decodes(t, "zeros", make([]byte, page))
		b := good(7, row(9, 9), page)
		same(t, "a good page", decodes(t, "a good page", b), true)
		for _, n := range []int{1, 2, 4, 8, 12, 15, 16, page / 2, page - 1} {
			decodes(t, "cut", b[:n])
			decodes(t, "cut, with the sum", summed(append(bytes.Clone(b[:n]), 0, 0, 0, 0)))
		}
		decodes(t, "a byte more", append(bytes.Clone(b), 0))
		decodes(t, "twice", append(bytes.Clone(b), b...))
	}
	decodes(t, "twice the greatest size", good(0, nil, 131072))
}

// P10.9: every byte changed, with the old sum, and with a right one.
func TestDecodeOfAChangedPage(t *testing.T) {
	taken := 0
	pages := [][]byte{good(0, []int{2, 300}, 512), good(2, row(2, 125), 512), good(65535, row(65411, 124), 512), good(0, nil, 1024), good(300, row(700, 253), 1024)}
	for k, b := range pages {
		same(t, "as it is", decodes(t, "as it is", b), true)
		for i := range b {
			for _, with := range []byte{1, 2, 4, 0x80, 0xff, b[i]} {
				if with == 0 {
					continue
				}
				c := bytes.Clone(b)
				c[i] ^= with
				same(t, fmt.Sprintf("page %d, byte %d: the old sum", k, i), decodes(t, "changed, the old sum", c), false)
				if decodes(t, fmt.Sprintf("page %d, byte %d changed", k, i), summed(c)) {
					taken++
				}
			}
		}
	}
	same(t, "some of these are pages still", taken > 20, true)
}

// P10.9: the greater sizes, at the places where something changes.
func TestDecodeOfAChangedGreatPage(t *testing.T) {
	for _, page := range sizes() {
		for _, n := range []int{1, 2, page / 8, (page - 12) / 4} {
			b := good(9, row(40, n), page)
			end := 8 + 4*n
			for _, i := range []int{0, 1, 2, 3, 4, 5, 6, 7, 8, 9, 10, 11, end - 4, end - 3, end - 2, end - 1, end, min(end+3, page-1), page - 5, page - 4, page - 3, page - 2, page - 1} {
				c := bytes.Clone(b)
				c[i] ^= 1
				same(t, "the old sum", decodes(t, "changed, the old sum", c), false)
				decodes(t, fmt.Sprintf("size %d, byte %d changed", page, i), summed(c))
			}
		}
	}
}

// P10.9: every count that two bytes can say, over pages that are fewer, as many, and more.
func TestDecodeOfCounts(t *testing.T) {
	for _, page := range []int{512, 1024, 65536} {
		room := (page - 12) / 4
		for _, n := range []int{0, 1, 2, room - 1, room} {
			counts := row(0, 300)
			counts = append(counts, room-2, room-1, room, room+1, room+2, page/4, page-12, page, 0x7fff, 0x8000, 0xfffe, 0xffff)
			for _, count := range counts {
				is := decodes(t, fmt.Sprintf("count %d over %d pages of %d", count, n, page), laid(3, count, row(50, n), page))
				same(t, "that is a page", is, count&0xffff == n)
			}
		}
	}
}

// P10.9: numbers of four bytes that are none, as next and as pages, and pages that do not rise.
func TestDecodeOfNumbers(t *testing.T) {
	numbers := []int{0, 1, 2, 3, 4, 255, 256, 65534, 65535, 65536, 65537, 1 << 24, 1<<31 - 1, 1 << 31, 1<<32 - 1}
	for _, next := range numbers {
		for _, a := range numbers {
			for _, b := range numbers {
				is := decodes(t, fmt.Sprintf("next %d, pages %d and %d", next, a, b), good(next, []int{a, b}, 512))
				same(t, "that is a page", is, (next == 0 || isNumber(next)) && isNumber(a) && isNumber(b) && a < b)
			}
		}
	}
}

// P10.9: zeros behind the pages that are none, each byte of them.
func TestDecodeOfZerosThatAreNone(t *testing.T) {
	for _, n := range []int{0, 1, 60, 124, 125} {
		b := good(2, row(9, n), 512)
		for i := 8 + 4*n; i < 508; i++ {
			c := bytes.Clone(b)
			c[i] = 1
			same(t, fmt.Sprintf("%d pages, byte %d not 0", n, i), decodes(t, "zeros", summed(c)), false)
		}
	}
}

// P10.9: pages of other kinds.
func TestDecodeOfOtherKinds(t *testing.T) {
	for kind := range 256 {
		for engine := range 256 {
			b := good(0, []int{2}, 512)
			b[0], b[1] = byte(kind), byte(engine)
			same(t, "a page", decodes(t, "another kind", summed(b)), kind == 5 && engine == 0)
		}
	}
}

// P10.8, P10.9: rows of pages at random go there and back; so do random bytes with a head.
func TestPagesAtRandom(t *testing.T) {
	r := chance()
	for range 600 {
		page := 512 << r.Intn(4)
		n := r.Intn((page-12)/4 + 2)
		pages := r.Perm(65540)[:n]
		if r.Intn(4) > 0 {
			slices.Sort(pages)
		}
		encodes(t, r.Intn(65540), pages, page)
	}
}
