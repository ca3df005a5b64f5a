package free

import (
	"bytes"

	"espalier/api"
	"espalier/cell"
	"espalier/ink"
)

const (
	countAt    = 2
	nextAt     = 4
	pagesAt    = 8
	countWidth = 2
	pageWidth  = 4
	sumLen     = 4
)

// Room tells how many pages one such page lists.
func Room(page int) int {
	if !cell.IsSize(page) {
		return 0
	}
	return (page - pagesAt - sumLen) / pageWidth
}

// Encode writes a page of the list; Decode reads one: the next page, the pages.
func Encode(next int, pages []int, page int) ([]byte, api.Errno) {
	if e := refused(next, pages, page); e != api.OK {
		return nil, e
	}
	b := make([]byte, page)
	b[0] = api.PageFree
	put(b, countAt, len(pages), countWidth)
	put(b, nextAt, next, pageWidth)
	for i, p := range pages {
		put(b, pagesAt+i*pageWidth, p, pageWidth)
	}
	sumAt := page - sumLen
	put(b, sumAt, int(ink.Sum(b[:sumAt])), sumLen)
	return b, api.OK
}

func refused(next int, pages []int, page int) api.Errno {
	switch {
	case !cell.IsSize(page):
		return api.ErrArg
	case next != 0 && !isPage(next):
		return api.ErrPage
	case len(pages) > Room(page):
		return api.ErrLong
	}
	ahead := 0
	for _, p := range pages {
		if !isPage(p) {
			return api.ErrPage
		}
		if p <= ahead {
			return api.ErrOrder
		}
		ahead = p
	}
	return api.OK
}

func Decode(b []byte) (int, []int, api.Errno) {
	if !cell.IsSize(len(b)) {
		return 0, nil, api.ErrCorrupt
	}
	count := numberAt(b, countAt, countWidth)
	if count > Room(len(b)) {
		return 0, nil, api.ErrCorrupt
	}
	pages := make([]int, count)
	for i := range pages {
		pages[i] = numberAt(b, pagesAt+i*pageWidth, pageWidth)
	}
	next := numberAt(b, nextAt, pageWidth)
	// Only the page as it is written is one, so whatever else may be wrong with b shows here: its kind, its zeros, its sum.
	whole, e := Encode(next, pages, len(b))
	if e != api.OK || !bytes.Equal(whole, b) {
		return 0, nil, api.ErrCorrupt
	}
	return next, pages, api.OK
}

func put(b []byte, at, n, width int) {
	copy(b[at:], ink.Fixed(uint64(n), width))
}

// numberAt is asked of whole pages alone, so there is no error.
func numberAt(b []byte, at, width int) int {
	n, _ := ink.ReadFixed(b, at, width)
	return int(n)
}
