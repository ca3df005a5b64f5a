package spill

import (
	"bytes"

	"espalier/api"
	"espalier/cell"
	"espalier/ink"
)

const (
	nextAt  = 4
	countAt = 8
	dataAt  = 12
	width   = 4 // of the numbers in a page
	sumLen  = 4
)

// hold is how many bytes of a value a page has room for.
func hold(page int) int { return page - dataAt - sumLen }

// Pages tells how many pages a value takes.
func Pages(page, n int) int {
	if !cell.IsSize(page) || n < 1 {
		return 0
	}
	// Nothing is added to n, for it may be the greatest int.
	return (n-1)/hold(page) + 1
}

// Encode writes one such page; Decode reads one: the next page, the bytes.
func Encode(next int, data []byte, page int) ([]byte, api.Errno) {
	if !cell.IsSize(page) || !mayBeNext(next) {
		return nil, api.ErrArg
	}
	if len(data) == 0 || len(data) > hold(page) {
		return nil, api.ErrSize
	}
	b := make([]byte, page)
	b[0] = api.PageSpill
	copy(b[nextAt:], ink.Fixed(uint64(next), width))
	copy(b[countAt:], ink.Fixed(uint64(len(data)), width))
	copy(b[dataAt:], data)
	sumAt := page - sumLen
	copy(b[sumAt:], ink.Fixed(uint64(ink.Sum(b[:sumAt])), sumLen))
	return b, api.OK
}

func Decode(b []byte) (int, []byte, api.Errno) {
	if !cell.IsSize(len(b)) {
		return 0, nil, api.ErrCorrupt
	}
	next, count := numberAt(b, nextAt), numberAt(b, countAt)
	if count > hold(len(b)) {
		return 0, nil, api.ErrCorrupt
	}
	data := b[dataAt : dataAt+count]
	// Only the page as it is written is one, so whatever else may be wrong with b shows here: its kind, its zeros, its sum.
	whole, e := Encode(next, data, len(b))
	if e != api.OK || !bytes.Equal(whole, b) {
		return 0, nil, api.ErrCorrupt
	}
	return next, bytes.Clone(data), api.OK
}

// mayBeNext: no chain goes on in a meta page, and 0 says that it ends.
func mayBeNext(n int) bool { return n == 0 || n >= 2 && n < api.MaxPages }

// numberAt is asked of whole pages alone, so there is no error.
func numberAt(b []byte, at int) int {
	n, _ := ink.ReadFixed(b, at, width)
	return int(n)
}
