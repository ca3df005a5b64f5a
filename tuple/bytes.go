package tuple

import (
	"math"
	"math/bits"
	"unicode/utf8"

	"espalier/api"
	"espalier/ink"
)

const (
	firstKind = 0x10 // added to an item's kind
	fromZero  = 0x80 // added to the number of bytes of an Int that is not below 0
	belowZero = 0x7f // less the number of bytes of an Int below 0
	intBytes  = 8
	listEnd   = 0x00 // less than what any item begins with, so that a List stands ahead of those that it begins
)

// Encode writes a tuple so that what is written sorts as tuples do; Decode reads one.
func Encode(l ...api.Item) ([]byte, api.Errno) {
	if e := Check(l); e != api.OK {
		return nil, e
	}
	b := appendItems(nil, l)
	if len(b) > api.MaxText {
		return nil, api.ErrLong
	}
	return b, api.OK
}

// appendItems leaves off where there are too many bytes already.
func appendItems(b []byte, l []api.Item) []byte {
	for _, item := range l {
		if len(b) > api.MaxText {
			break
		}
		b = appendItem(append(b, byte(firstKind+item.Kind)), item)
	}
	return b
}

func appendItem(b []byte, item api.Item) []byte {
	switch item.Kind {
	case api.Int:
		return appendInt(b, item.Num)
	case api.Float:
		return append(b, ink.Fixed(floatRank(item.Num), intBytes)...)
	case api.Bytes, api.Text:
		return append(b, ink.Ordered([]byte(cut(item.Text)))...)
	case api.List:
		return append(appendItems(b, item.List), listEnd)
	}
	return b
}

// appendInt needs no turning of its own below 0: the bits of n are those of -n - 1 turned.
func appendInt(b []byte, n int64) []byte {
	if n < 0 {
		k := bytesOf(uint64(^n))
		return append(append(b, byte(belowZero-k)), ink.Fixed(uint64(n), k)...)
	}
	k := bytesOf(uint64(n))
	return append(append(b, byte(fromZero+k)), ink.Fixed(uint64(n), k)...)
}

func bytesOf(n uint64) int { return (bits.Len64(n) + 7) / 8 }

func Decode(b []byte) ([]api.Item, api.Errno) {
	if len(b) > api.MaxText {
		return nil, api.ErrLong
	}
	l, _, e := readItems(b, 0, 0)
	return l, e
}

// readItems reads the items of a List in that depth from the place at on: them, and the place behind its end. The tuple itself is as one in depth 0, which the end of the bytes ends.
func readItems(b []byte, at, depth int) ([]api.Item, int, api.Errno) {
	var l []api.Item
	for at < len(b) {
		if depth > 0 && b[at] == listEnd {
			return l, at + 1, api.OK
		}
		kind := int(b[at]) - firstKind
		if !isKind(kind) {
			return nil, 0, api.ErrTuple
		}
		if len(l) == api.MaxItems || kind == api.List && depth == api.MaxDepth {
			return nil, 0, api.ErrItems
		}
		item, next, e := readItem(b, at+1, kind, depth)
		if e != api.OK {
			return nil, 0, e
		}
		l, at = append(l, item), next
	}
	if depth > 0 {
		return nil, 0, api.ErrTuple
	}
	return l, at, api.OK
}

// readItem reads what stands behind an item's first byte, and tells the place behind it.
func readItem(b []byte, at, kind, depth int) (api.Item, int, api.Errno) {
	item := api.Item{Kind: kind}
	e := api.OK
	switch kind {
	case api.Int:
		item.Num, at, e = readInt(b, at)
	case api.Float:
		item.Num, at, e = readFloat(b, at)
	case api.Bytes, api.Text:
		item.Text, at, e = readText(b, at, kind)
	case api.List:
		item.List, at, e = readItems(b, at, depth+1)
	}
	return item, at, e
}

func readInt(b []byte, at int) (int64, int, api.Errno) {
	if at == len(b) {
		return 0, 0, api.ErrTuple
	}
	below := b[at] < fromZero
	k := int(b[at]) - fromZero
	if below {
		k = belowZero - int(b[at])
	}
	if k == 0 {
		return numberOf(0, below), at + 1, api.OK
	}
	n, e := ink.ReadFixed(b, at+1, k)
	if e != api.OK {
		return 0, 0, api.ErrTuple
	}
	if below {
		n ^= math.MaxUint64 >> (64 - 8*k)
	}
	if n > math.MaxInt64 || bytesOf(n) != k {
		return 0, 0, api.ErrTuple
	}
	return numberOf(n, below), at + 1 + k, api.OK
}

func numberOf(n uint64, below bool) int64 {
	if below {
		return ^int64(n)
	}
	return int64(n)
}

func readFloat(b []byte, at int) (int64, int, api.Errno) {
	rank, e := ink.ReadFixed(b, at, intBytes)
	if e != api.OK {
		return 0, 0, api.ErrTuple
	}
	return floatBits(rank), at + intBytes, api.OK
}

func readText(b []byte, at, kind int) (string, int, api.Errno) {
	text, next, e := ink.ReadOrdered(b, at)
	if e != api.OK || kind == api.Text && !utf8.Valid(text) {
		return "", 0, api.ErrTuple
	}
	return string(text), next, api.OK
}

// Prefix tells from where to where the tuples lie that begin with one (open: to the end).
func Prefix(l ...api.Item) (lo, hi []byte, open bool, e api.Errno) {
	lo, e = Encode(l...)
	if e != api.OK {
		return nil, nil, false, e
	}
	hi, there := ink.Behind(lo)
	return lo, hi, !there, api.OK
}
