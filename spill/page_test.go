package spill_test

import (
	"bytes"
	"fmt"
	"math"
	"testing"

	"espalier/api"
	"espalier/spill"
)

// P9.2: of every size, about each border between so many pages and one more.
func TestPages(t *testing.T) {
	for _, page := range sizes() {
		hold := page - 16
		for k := 1; k <= 140; k++ {
			same(t, "full pages", spill.Pages(page, k*hold), k)
			same(t, "one byte more", spill.Pages(page, k*hold+1), k+1)
			same(t, "one byte less", spill.Pages(page, k*hold-1), k)
		}
		for n := 1; n <= api.MaxValue+1; n += 97 {
			same(t, "Pages", spill.Pages(page, n), len(cut(make([]byte, n), page)))
		}
		same(t, "one byte", spill.Pages(page, 1), 1)
		for _, n := range []int{0, -1, -2, -hold, -hold - 1, 1 - hold, math.MinInt, math.MinInt + 1} {
			same(t, "no bytes", spill.Pages(page, n), 0)
		}
		for _, n := range []int{math.MaxInt, math.MaxInt - 1, 1 << 62, 1 << 40, 1<<32 + 1} {
			want := n / hold
			if n%hold > 0 {
				want++
			}
			same(t, "very many bytes", spill.Pages(page, n), want)
		}
	}
}

// P9.2
func TestPagesOfNoSize(t *testing.T) {
	for _, page := range oddSizes() {
		for _, n := range []int{math.MinInt, -1, 0, 1, 496, 65536, math.MaxInt} {
			same(t, fmt.Sprintf("Pages(%d, %d)", page, n), spill.Pages(page, n), 0)
		}
	}
}

// wantEncode is what Encode should answer.
func wantEncode(next, n, page int) api.Errno {
	switch {
	case !isSize(page), next < 0, next == 1, next > 65535:
		return api.ErrArg
	case n == 0, n > page-16:
		return api.ErrSize
	}
	return api.OK
}

func encodes(t *testing.T, next int, data []byte, page int) {
	t.Helper()
	what := fmt.Sprintf("Encode(%d, %d bytes, %d)", next, len(data), page)
	b, e := spill.Encode(next, data, page)
	same(t, what, e, wantEncode(next, len(data), page))
	if e != api.OK {
		same(t, what+": bytes beside the error", len(b), 0)
		return
	}
	sameBytes(t, what, b, good(next, data, page))
	back, held, e := spill.Decode(b)
	same(t, what+", decoded", e, api.OK)
	same(t, what+", decoded: next", back, next)
	sameBytes(t, what+", decoded", held, data)
}

func someNexts() []int {
	return []int{math.MinInt, -1 << 32, -65536, -2, -1, 0, 1, 2, 3, 255, 256, 65534, 65535, 65536, 65537, 1 << 24, 1 << 32, 1<<32 + 2, math.MaxInt}
}

// P9.1: at every size every length about the edges with every next, in every pairing, so that the first of two errors is seen.
func TestEncode(t *testing.T) {
	for _, page := range append(oddSizes(), sizes()...) {
		lengths := []int{0, 1, 2, 496, 497, 65520, 65521, 65537}
		if isSize(page) {
			lengths = append(lengths, page-17, page-16, page-15, page-12, page-4, page, page+1)
		}
		for _, n := range lengths {
			for _, next := range someNexts() {
				encodes(t, next, text(n), page)
			}
		}
		encodes(t, 2, nil, page)
		encodes(t, 2, []byte{}, page)
	}
}

// P9.1: every next that may be and those beside.
func TestEncodeOfEveryNext(t *testing.T) {
	for next := -3; next <= 65540; next++ {
		encodes(t, next, []byte{0}, 512)
	}
}

// P9.1: bytes that are zeros are told from those that stand behind them.
func TestEncodeOfZeros(t *testing.T) {
	for n := 1; n <= 496; n++ {
		encodes(t, 0, make([]byte, n), 512)
		encodes(t, 65535, bytes.Repeat([]byte{255}, n), 512)
	}
}

// decodes holds Decode against the chapter's table.
func decodes(t *testing.T, what string, b []byte) bool {
	t.Helper()
	next, data, is := said(b)
	gotNext, got, e := spill.Decode(b)
	if !is {
		same(t, what, e, api.ErrCorrupt)
		same(t, what+": next beside the error", gotNext, 0)
		same(t, what+": bytes beside the error", len(got), 0)
		return false
	}
	same(t, what, e, api.OK)
	same(t, what+": next", gotNext, next)
	sameBytes(t, what, got, data)
	return true
}

// P9.1: what has no page's length, or a page's length and nothing else.
func TestDecodeOfNoPage(t *testing.T) {
	for n := range 1030 {
		decodes(t, fmt.Sprintf("%d zeros", n), make([]byte, n))
		decodes(t, fmt.Sprintf("%d bytes", n), text(n))
		b := append([]byte{4, 0, 0, 0, 0, 0, 0, 0, 0, 0, 0, 1}, make([]byte, n)...)
		is := decodes(t, "a head and so many zeros, with the sum", summed(b))
		same(t, "that is a page", is, len(b) == 512 || len(b) == 1024)
	}
	decodes(t, "nil", nil)
	for _, page := range sizes() {
		decodes(t, "zeros", make([]byte, page))
		b := good(7, text(9), page)
		same(t, "a good page", decodes(t, "a good page", b), true)
		for _, n := range []int{1, 4, 12, 15, 16, page / 2, page - 1} {
			decodes(t, "cut", b[:n])
			decodes(t, "cut, with the sum", summed(append(bytes.Clone(b[:n]), 0, 0, 0, 0)))
		}
		decodes(t, "a byte more", append(bytes.Clone(b), 0))
		decodes(t, "twice", append(bytes.Clone(b), b...))
	}
	decodes(t, "twice the greatest size", summed(make([]byte, 131072)))
}

// P9.1: every byte changed, with the old sum, and with a right one.
func TestDecodeOfAChangedPage(t *testing.T) {
	pages := [][]byte{good(0, []byte("ab"), 512), good(2, text(496), 512), good(65535, text(495), 512), good(0, []byte{0}, 1024), good(300, text(1008), 1024)}
	for k, b := range pages {
		same(t, "as it is", decodes(t, "as it is", b), true)
		for i := range b {
			for _, with := range []byte{1, 2, 4, 0x80, 0xff, b[i]} {
				if with == 0 {
					continue
				}
				c := bytes.Clone(b)
				c[i] ^= with
				same(t, fmt.Sprintf("page %d, byte %d: the old sum", k, i), decodes(t, "changed, the old sum", c), false)
				decodes(t, fmt.Sprintf("page %d, byte %d changed", k, i), summed(c))
			}
		}
	}
}

// P9.1: the greater sizes, at the places where something changes.
func TestDecodeOfAChangedGreatPage(t *testing.T) {
	for _, page := range sizes() {
		for _, n := range []int{1, page / 2, page - 16} {
			b := good(9, text(n), page)
			for _, i := range []int{0, 1, 2, 3, 4, 5, 6, 7, 8, 9, 10, 11, 12, 11 + n, 12 + n, page - 5, page - 4, page - 3, page - 2, page - 1} {
				c := bytes.Clone(b)
				c[i] ^= 1
				same(t, "the old sum", decodes(t, "changed, the old sum", c), false)
				decodes(t, fmt.Sprintf("size %d, byte %d changed", page, i), summed(c))
			}
		}
	}
}

// P9.1: every number that the next page and the number of bytes may be, and those that they may not.
func TestDecodeOfNumbers(t *testing.T) {
	numbers := []int{0, 1, 2, 3, 4, 5, 495, 496, 497, 498, 500, 507, 508, 509, 511, 512, 513, 1007, 1008, 1009, 65535, 65536, 65537, 1 << 24, 1 << 30, 1<<31 - 1, 1 << 31, 1<<32 - 1}
	for _, page := range []int{512, 1024} {
		for _, next := range numbers {
			for _, count := range numbers {
				for _, data := range [][]byte{nil, text(1), text(4), text(496), text(497)} {
					if len(data) <= page-16 {
						decodes(t, fmt.Sprintf("next %d, count %d, %d bytes of %d", next, count, len(data), page), laid(next, count, data, page))
					}
				}
			}
		}
		for count := range page + 8 {
			is := decodes(t, fmt.Sprintf("%d zeros", count), laid(2, count, nil, page))
			same(t, "zeros that are so many", is, count >= 1 && count <= page-16)
		}
	}
	for _, page := range sizes() {
		for count := page - 20; count <= page+5; count++ {
			decodes(t, fmt.Sprintf("%d zeros of %d", count, page), laid(2, count, nil, page))
		}
	}
}

// P9.1: of the kinds and engines that other pages have, none is a spill page's.
func TestDecodeOfOtherKinds(t *testing.T) {
	for i := range 4 {
		for v := range 256 {
			b := good(5, text(30), 512)
			b[i] = byte(v)
			is := decodes(t, fmt.Sprintf("byte %d is %d", i, v), summed(b))
			same(t, "taken", is, v == 4 && i == 0 || v == 0 && i > 0)
		}
	}
}
