package ship

import (
	"bytes"

	"espalier/api"
	"espalier/ink"
	"espalier/meta"
)

// How a delta's bytes are laid out.
const (
	sign      = "ESPD"
	engineAt  = 4
	pageAt    = 8
	fromAt    = 12
	toAt      = 20
	countAt   = 28
	metaAt    = 32
	shortLen  = 4 // of most numbers
	longLen   = 8 // of a commit's number
	leastPage = 2 // below it are the meta pages
)

// Encode writes a delta; Decode reads one.
func Encode(d api.Delta) ([]byte, api.Errno) {
	if _, e := metaOf(d); e != api.OK {
		return nil, e
	}
	b := make([]byte, 0, length(d.Page, len(d.Pages)))
	b = append(b, sign...)
	b = append(b, byte(d.Engine), 0, 0, 0)
	b = appendNumber(b, d.Page, shortLen)
	b = appendNumber(b, d.From, longLen)
	b = appendNumber(b, d.To, longLen)
	b = appendNumber(b, len(d.Pages), shortLen)
	b = append(b, d.Meta...)
	for _, p := range d.Pages {
		b = appendNumber(b, p.Page, shortLen)
		b = append(b, p.Data...)
	}
	return appendNumber(b, int(ink.Sum(b)), shortLen), api.OK
}

func Decode(b []byte) (api.Delta, api.Errno) {
	d, e := read(b)
	if e != api.OK {
		return api.Delta{}, e
	}
	// Whatever else may be wrong shows here: the sign, the zeros, the sum.
	again, e := Encode(d)
	if e != api.OK || !bytes.Equal(again, b) {
		return api.Delta{}, api.ErrDelta
	}
	return d, api.OK
}

// metaOf is what a delta's meta page says; ErrDelta, if the delta may not be. (Its Engine, its Page and its To are in their bounds, if they are the meta's.)
func metaOf(d api.Delta) (api.Meta, api.Errno) {
	m, e := meta.Decode(d.Meta)
	switch {
	case e != api.OK || m.Engine != d.Engine || m.Page != d.Page || m.Txn != d.To:
		return api.Meta{}, api.ErrDelta
	case d.From < 0 || d.From > d.To || isStill(d) && len(d.Pages) > 0:
		return api.Meta{}, api.ErrDelta
	}
	least := leastPage
	for _, p := range d.Pages {
		if p.Page < least || p.Page >= m.High || len(p.Data) != m.Page {
			return api.Meta{}, api.ErrDelta
		}
		least = p.Page + 1
	}
	return m, api.OK
}

// isStill holds of a delta that leads nowhere else. One to commit 0 does not: from 0 means from nothing.
func isStill(d api.Delta) bool { return d.From == d.To && d.From > 0 }

// length is how many bytes a delta of so many pages takes.
func length(page, pages int) int { return metaAt + page + pages*(shortLen+page) + shortLen }

func appendNumber(b []byte, n, width int) []byte { return append(b, ink.Fixed(uint64(n), width)...) }

// read tells what stands in a delta's places, if there are as many bytes as it must have.
func read(b []byte) (api.Delta, api.Errno) {
	if len(b) < metaAt {
		return api.Delta{}, api.ErrDelta
	}
	d := api.Delta{Engine: int(b[engineAt]), Page: number(b, pageAt, shortLen), From: number(b, fromAt, longLen), To: number(b, toAt, longLen)}
	count := number(b, countAt, shortLen)
	// The page's size comes first: the length of greater ones may be beyond all numbers.
	if d.Page < api.MinPage || d.Page > api.MaxPage || len(b) != length(d.Page, count) {
		return api.Delta{}, api.ErrDelta
	}
	at := metaAt + d.Page
	d.Meta = bytes.Clone(b[metaAt:at])
	for range count {
		data := at + shortLen
		end := data + d.Page
		d.Pages = append(d.Pages, api.PageData{Page: number(b, at, shortLen), Data: bytes.Clone(b[data:end])})
		at = end
	}
	return d, api.OK
}

// number is the one at a place that is there.
func number(b []byte, at, width int) int {
	n, _ := ink.ReadFixed(b, at, width)
	return int(n)
}
