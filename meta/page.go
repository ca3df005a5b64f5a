package meta

import (
	"espalier/api"
	"espalier/ink"
)

const (
	fields = 8 // of a meta
	sign   = "ESPL"
	signAt = 4
	sumLen = 4
)

// place is where a number stands in a meta page and how many bytes it has there, with the least and the greatest that it may ever be.
type place struct {
	at, width   int
	least, most int
}

// places are in the order of numbers and metaOf.
func places() [fields]place {
	return [fields]place{
		{1, 1, api.Plain, api.Packed},
		{8, 4, api.MinPage, api.MaxPage},
		{12, 8, 0, api.MaxTxn},
		{20, 4, 0, api.MaxPages - 1},
		{24, 4, 0, api.MaxTrees},
		{28, 4, 0, api.MaxPages - 1},
		{32, 4, 0, api.MaxPages - 2},
		{36, 4, 2, api.MaxPages},
	}
}

func numbers(m api.Meta) [fields]int {
	return [fields]int{m.Engine, m.Page, m.Txn, m.Root, m.Count, m.Free, m.Listed, m.High}
}

func metaOf(l [fields]int) api.Meta {
	return api.Meta{Engine: l[0], Page: l[1], Txn: l[2], Root: l[3], Count: l[4], Free: l[5], Listed: l[6], High: l[7]}
}

func isWithin(m api.Meta) bool {
	l := numbers(m)
	for i, p := range places() {
		if l[i] < p.least || l[i] > p.most {
			return false
		}
	}
	return true
}

// written is the page of what is a meta.
func written(m api.Meta) []byte {
	b := make([]byte, m.Page)
	b[0] = api.PageMeta
	copy(b[signAt:], sign)
	l := numbers(m)
	for i, p := range places() {
		copy(b[p.at:], ink.Fixed(uint64(l[i]), p.width))
	}
	sumAt := len(b) - sumLen
	copy(b[sumAt:], ink.Fixed(uint64(ink.Sum(b[:sumAt])), sumLen))
	return b
}

// read takes the numbers of b from their places, whatever else stands in b; they may be no meta's.
func read(b []byte) (api.Meta, api.Errno) {
	var l [fields]int
	for i, p := range places() {
		n, e := ink.ReadFixed(b, p.at, p.width)
		if e != api.OK {
			return api.Meta{}, e
		}
		l[i] = int(n)
	}
	return metaOf(l), api.OK
}
