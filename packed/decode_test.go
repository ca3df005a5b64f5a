package packed_test

import (
	"bytes"
	"encoding/binary"
	"slices"
	"strconv"
	"testing"

	"espalier/api"
	"espalier/packed"
)

// said are the kind and the cells of which b is the page, found through the slots and held against b; false, if there are none.
func said(b []byte) (kind int, cells []api.Cell, ok bool) {
	if !slices.Contains(sizes(), len(b)) || b[0] != 2 && b[0] != 3 {
		return 0, nil, false
	}
	n, prefix := int(binary.BigEndian.Uint16(b[2:])), int(binary.BigEndian.Uint16(b[4:]))
	slots := 6 + prefix
	if slots+2*n > len(b) {
		return 0, nil, false
	}
	for i := range n {
		c, ok := cellAt(b, int(binary.BigEndian.Uint16(b[slots+2*i:])))
		if !ok {
			return 0, nil, false
		}
		if b[0] == 2 || i > 0 {
			c.Key = slices.Concat(b[6:slots], c.Key)
		}
		cells = append(cells, c)
	}
	if wanted(int(b[0]), cells, len(b)) != api.OK || !bytes.Equal(laid(int(b[0]), cells, len(b)), b) {
		return 0, nil, false
	}
	return int(b[0]), cells, true
}

// cellAt reads a cell's bytes, with the rest of its key alone; what goes beyond b is caught.
func cellAt(b []byte, at int) (c api.Cell, ok bool) {
	defer func() { ok = recover() == nil }()
	b = slices.Clip(b)
	number := func() int {
		n, took := binary.Uvarint(b[at:])
		if took <= 0 {
			panic("no number")
		}
		at += took
		return int(n)
	}
	text := func() []byte {
		n := number()
		at += n
		return b[at-n : at]
	}
	c.Kind = int(b[at])
	at++
	c.Key = text()
	if c.Kind == api.CellValue {
		c.Value = text()
		return c, true
	}
	c.Page = number()
	c.Count = number()
	return c, true
}

// asSaid holds what Decode makes of any bytes against what they say.
func asSaid(t *testing.T, what string, b []byte) bool {
	t.Helper()
	kind, cells, ok := said(b)
	if !ok {
		corrupt(t, what, b)
		return false
	}
	reads(t, what, b, kind, cells)
	return true
}

// P7.3, P7.11: what Encode wrote is read back, at every size.
func TestReadBack(t *testing.T) {
	for _, page := range sizes() {
		for _, kind := range kinds() {
			for _, cells := range [][]api.Cell{nil, someCells(kind, page)[:1], someCells(kind, page)[:2], few(kind, page, page), many(kind, page, ""), stemmed(kind, 20, long(page/8-1))} {
				b, e := packed.Encode(kind, cells, page)
				same(t, "Encode", e, api.OK)
				reads(t, "what was written", b, kind, cells)
			}
		}
	}
}

// P7.3: of other lengths there are no pages, whatever the sum.
func TestOtherLengths(t *testing.T) {
	corrupt(t, "nil", nil)
	corrupt(t, "no bytes", []byte{})
	for _, page := range sizes() {
		b := laid(api.PageLeaf, row(value("a", "xy")), page)
		for _, n := range []int{1, 2, 3, 4, 5, 6, 8, 10, 18, page / 2, page - 4, page - 1} {
			corrupt(t, "too few bytes", b[:n])
		}
		corrupt(t, "a byte too many", append(bytes.Clone(b), 0))
		corrupt(t, "two in a row", append(bytes.Clone(b), b...))
		// Cells stand at the same places, however great the page is.
		greater := summed(append(bytes.Clone(b[:len(b)-4]), make([]byte, page+4)...))
		if page < 65536 {
			reads(t, "twice as many, zeros between", greater, api.PageLeaf, row(value("a", "xy")))
		} else {
			corrupt(t, "twice as many as the most", greater)
		}
	}
	for _, n := range []int{10, 18, 256, 500, 511, 513, 514, 768, 1023, 1025, 65535, 65537, 131072} {
		corrupt(t, strconv.Itoa(n)+" bytes, laid rightly", laid(api.PageLeaf, nil, n))
		if n >= 18 {
			corrupt(t, strconv.Itoa(n)+" bytes, a cell, laid rightly", laid(api.PageLeaf, row(value("a", "xy")), n))
		}
	}
	for n := range 600 {
		asSaid(t, "zeros", make([]byte, n))
		asSaid(t, "bytes FF", bytes.Repeat([]byte{0xff}, n))
	}
}

// P7.3: every byte of a page turned, with the old sum and with a right one.
func TestEveryByteTurned(t *testing.T) {
	for _, x := range []struct {
		kind  int
		cells []api.Cell
	}{
		{api.PageLeaf, nil},
		{api.PageLeaf, row(value("a", "xy"))},
		{api.PageLeaf, row(value("ka", ""), spill("kb", 300, 97), tree("kc", 0, 0), tree("kd", 9, 70000))},
		{api.PageLeaf, row(value("k", ""), value("ka", "x"))},
		{api.PageBranch, nil},
		{api.PageBranch, row(child("", 7, 3), child("a", 300, 70000))},
		{api.PageBranch, row(child("ka", 7, 3), child("kb", 300, 70000), child("kc", 9, 9))},
		{api.PageLeaf, few(api.PageLeaf, 512, 512)},
	} {
		good := laid(x.kind, x.cells, 512)
		taken := 0
		for i := range good {
			for _, by := range []byte{1, 2, 3, 4, 5, 6, 7, 0x10, 0x20, 0x40, 0x80, 0xff} {
				b := bytes.Clone(good)
				b[i] ^= by
				corrupt(t, "byte "+strconv.Itoa(i)+", the old sum", b)
				if i < 508 && asSaid(t, "byte "+strconv.Itoa(i)+", a right sum", summed(b)) {
					taken++
				}
			}
		}
		if len(x.cells) > 0 && taken == 0 {
			t.Error("no other page came of it")
		}
	}
}

// P7.3: some bytes of a page's head, its prefix, its slots and its cells set to anything, with a right sum.
func TestTurnedAtRandom(t *testing.T) {
	r := chance()
	taken := 0
	for range 30000 {
		kind := kinds()[r.Intn(2)]
		l := anew(kind, 512, nil)
		stem := long(r.Intn(4))
		for range r.Intn(6) {
			c := anyCell(r, kind, 512, stem)
			at, _ := l.find(c.Key)
			l.insert(at, c)
		}
		b := laid(kind, l.cells, 512)
		places := size(kind, l.cells) - 4
		for range 1 + r.Intn(2) {
			at := r.Intn(places)
			b[at] = byte([]int{0, 1, 2, 3, 4, 127, 128, 255, r.Intn(256), int(b[at]) + 1}[r.Intn(10)])
		}
		if asSaid(t, "turned", summed(b)) {
			taken++
		}
	}
	if taken < 100 {
		t.Error("few other pages came of it:", taken)
	}
}

// bent are the bytes of a page of 512 bytes with some set anew, and a right sum.
func bent(b []byte, at int, by string) []byte {
	b = bytes.Clone(b)
	copy(b[at:], by)
	return summed(b)
}

// P7.3: pages with a right sum that are wrong in one thing.
func TestWrongInOneThing(t *testing.T) {
	// The prefix stands at 6, the slots from 7 on; the first cell's bytes begin at 13, the second's at 19, the third's at 24, zeros at 29.
	cells := row(value("ka", "xy"), value("kb", "z"), value("kc", "v"))
	good := laid(api.PageLeaf, cells, 512)
	reads(t, "the good one", good, api.PageLeaf, cells)
	same(t, "its beginning", string(good[:31]), "\x02\x02\x00\x03\x00\x01k\x00\x0d\x00\x13\x00\x18\x01\x01a\x02xy\x01\x01b\x01z\x01\x01c\x01v\x00\x00")
	reads(t, "the last value longer by a zero that was spare", bent(good, 27, "\x02"), api.PageLeaf, row(cells[0], cells[1], value("kc", "v\x00")))
	// The prefix is empty; the slots stand from 6 on; the first cell's bytes begin at 10, the second's at 15.
	branch := laid(api.PageBranch, row(child("a", 7, 3), child("", 8, 4)), 512)
	same(t, "a branch's beginning", string(branch[:20]), "\x03\x02\x00\x02\x00\x00\x00\x0a\x00\x0f\x03\x01a\x07\x03\x03\x00\x08\x04\x00")
	none := laid(api.PageLeaf, nil, 512)
	for what, b := range map[string][]byte{
		"kind 0":                     bent(good, 0, "\x00"),
		"kind 1":                     bent(good, 0, "\x01"),
		"kind 4":                     bent(good, 0, "\x04"),
		"kind 255":                   bent(good, 0, "\xff"),
		"a leaf said to be a branch": bent(good, 0, "\x03"),
		"no cells, of no kind":       bent(none, 0, "\x05"),
		"engine 0":                   bent(good, 1, "\x00"),
		"engine 1":                   bent(good, 1, "\x01"),
		"engine 3":                   bent(good, 1, "\x03"),
		"no cells, engine 1":         bent(none, 1, "\x01"),
		"n 0":                        bent(good, 2, "\x00\x00"),
		"n one less":                 bent(good, 2, "\x00\x02"),
		"n one more":                 bent(good, 2, "\x00\x04"),
		"n 259":                      bent(good, 2, "\x01\x03"),
		"n 65535":                    bent(good, 2, "\xff\xff"),
		"n 1, of no cells":           bent(none, 2, "\x00\x01"),
		"n 251, of no cells":         bent(none, 2, "\x00\xfb"),
		"n 252, of no cells":         bent(none, 2, "\x00\xfc"),
		"n 65535, of no cells":       bent(none, 2, "\xff\xff"),
		"the prefix's length 0":      bent(good, 4, "\x00\x00"),
		"the prefix's length 2":      bent(good, 4, "\x00\x02"),
		"the prefix's length 257":    bent(good, 4, "\x01\x01"),
		"the prefix's length 65535":  bent(good, 4, "\xff\xff"),
		"no cells, a prefix":         bent(none, 4, "\x00\x01"),
		"no cells, a prefix of all":  bent(none, 4, "\x01\xf6"),
		"no cells, one byte more":    bent(none, 4, "\x01\xf7"),
		"no cells, prefix 65535":     bent(none, 4, "\xff\xff"),
		"the first slot one less":    bent(good, 7, "\x00\x0c"),
		"the first slot one more":    bent(good, 7, "\x00\x0e"),
		"the first slot 0":           bent(good, 7, "\x00\x00"),
		"the first slot 256 more":    bent(good, 7, "\x01\x0d"),
		"the first slot at the end":  bent(good, 7, "\x02\x00"),
		"the first slot beyond":      bent(good, 7, "\xff\xff"),
		"the second slot one less":   bent(good, 9, "\x00\x12"),
		"the second slot one more":   bent(good, 9, "\x00\x14"),
		"the second slot 0":          bent(good, 9, "\x00\x00"),
		"the last slot one more":     bent(good, 11, "\x00\x19"),
		"the last slot beyond":       bent(good, 11, "\xff\xff"),
		"two slots alike":            bent(good, 9, "\x00\x0d"),
		"slots changed about":        bent(good, 7, "\x00\x13\x00\x0d"),
		"a byte behind the cells":    bent(good, 29, "\x01"),
		"a byte in the middle":       bent(good, 250, "\x80"),
		"a byte ahead of the sum":    bent(good, 507, "\xff"),
		"no cells, a byte":           bent(none, 6, "\x01"),
		"no cells, the last byte":    bent(none, 507, "\x01"),
		"a value one longer":         bent(good, 16, "\x03"),
		"a value one shorter":        bent(good, 16, "\x01"),
		"the last value one shorter": bent(good, 27, "\x00"),
		"a value beyond the page":    bent(good, 27, "\xff\x7f"),
		"a rest beyond the page":     bent(good, 14, "\xff\x7f"),
		"a cell of kind 0":           bent(good, 24, "\x00"),
		"a child in a leaf":          bent(good, 24, "\x03"),
		"a cell of kind 255":         bent(good, 13, "\xff"),
		"keys alike":                 bent(good, 21, "a"),
		"keys falling":               bent(good, 21, "\x00"),
		"the last key falling":       bent(good, 26, "b"),
		"a branch's keys falling":    branch,
	} {
		corrupt(t, what, b)
		if _, _, ok := said(b); ok {
			t.Error(what + ": it is a page")
		}
	}
}

// P7.3: cells whose bytes are right but which may not be, or are written in another form, laid with right slots and a right sum.
func TestWrongRecords(t *testing.T) {
	leaf := func(prefix string, records ...string) []byte { return pageOf(api.PageLeaf, prefix, records, 512) }
	branch := func(prefix string, records ...string) []byte {
		return pageOf(api.PageBranch, prefix, records, 512)
	}
	reads(t, "a good leaf", leaf("k", "\x01\x01a\x00", "\x01\x01b\x00"), api.PageLeaf, row(value("ka", ""), value("kb", "")))
	reads(t, "a good branch", branch("k", "\x03\x00\x02\x01", "\x03\x01a\x02\x01", "\x03\x01b\x02\x01"), api.PageBranch, row(child("", 2, 1), child("ka", 2, 1), child("kb", 2, 1)))
	for what, b := range map[string][]byte{
		"no prefix where there is one":           leaf("", "\x01\x02ka\x00", "\x01\x02kb\x00"),
		"a prefix that is shorter":               leaf("k", "\x01\x02la\x00", "\x01\x02lb\x00"),
		"one key, half of it the prefix":         leaf("k", "\x01\x01a\x00"),
		"one key, no prefix":                     leaf("", "\x01\x02ka\x00"),
		"no key, a prefix":                       leaf("k"),
		"no key in a branch, a prefix":           branch("k"),
		"one key in a branch, a prefix":          branch("k", "\x03\x00\x02\x01"),
		"one key in a branch, itself the prefix": branch("k", "\x03\x01k\x02\x01"),
		"two keys in a branch, no prefix":        branch("", "\x03\x00\x02\x01", "\x03\x01k\x02\x01"),
		"the prefix of a branch is shorter":      branch("k", "\x03\x00\x02\x01", "\x03\x02la\x02\x01", "\x03\x02lb\x02\x01"),
		"a branch's first key without prefix":    branch("k", "\x03\x01z\x02\x01", "\x03\x01a\x02\x01", "\x03\x01b\x02\x01"),
		"a rest's length longer than need be":    leaf("k", "\x01\x81\x00a\x00", "\x01\x01b\x00"),
		"a rest's length 0 in two bytes":         leaf("k", "\x01\x80\x00\x00", "\x01\x01b\x00"),
		"a value's length longer than need be":   leaf("k", "\x01\x01a\x80\x00", "\x01\x01b\x00"),
		"a page longer than need be":             branch("", "\x03\x00\x82\x00\x01"),
		"a count longer than need be":            branch("", "\x03\x00\x02\x81\x00"),
		"a count of ten bytes":                   branch("", "\x03\x00\x02\x81\x80\x80\x80\x80\x80\x80\x80\x80\x00"),
		"a count above 64 bits":                  branch("", "\x03\x00\x02\x81\x80\x80\x80\x80\x80\x80\x80\x80\x02"),
		"a count of eleven bytes":                branch("", "\x03\x00\x02\x81\x80\x80\x80\x80\x80\x80\x80\x80\x80\x00"),
		"page -1":                                branch("", "\x03\x00\xff\xff\xff\xff\xff\xff\xff\xff\xff\x01\x01"),
		"page 2 and 2^63":                        branch("", "\x03\x00\x82\x80\x80\x80\x80\x80\x80\x80\x80\x01\x01"),
		"page 2 and 2^32":                        branch("", "\x03\x00\x82\x80\x80\x80\x10\x01"),
		"count 1 and 2^32":                       branch("", "\x03\x00\x02\x81\x80\x80\x80\x10"),
		"page 1":                                 branch("", "\x03\x00\x01\x01"),
		"page 65536":                             branch("", "\x03\x00\x80\x80\x04\x01"),
		"count 0":                                branch("", "\x03\x00\x02\x00"),
		"count 2^30 + 1":                         branch("", "\x03\x00\x02\x81\x80\x80\x80\x04"),
		"a length of 2^64 - 1":                   leaf("", "\x01\xff\xff\xff\xff\xff\xff\xff\xff\xff\x01a\x00"),
		"a length of 2^63":                       leaf("", "\x01\x80\x80\x80\x80\x80\x80\x80\x80\x80\x01a\x00"),
		"a value of 2^64 - 1":                    leaf("a", "\x01\x00\xff\xff\xff\xff\xff\xff\xff\xff\xff\x01"),
		"a leaf's key without a byte":            leaf("", "\x01\x00\x00"),
		"a leaf's key without a byte, of two":    leaf("", "\x01\x00\x00", "\x01\x01a\x00"),
		"a value in a branch":                    branch("", "\x01\x01a\x00"),
		"a tree in a branch":                     branch("", "\x04\x01a\x02\x01"),
		"a key of 65 bytes":                      leaf(long(65), "\x01\x00\x00"),
		"a key of 65 bytes behind a prefix":      leaf(long(64), "\x01\x00\x00", "\x01\x01a\x00"),
		"a prefix of 400 bytes":                  leaf(long(400), "\x01\x00\x00", "\x01\x01a\x00"),
		"a branch's first key of 65 bytes":       branch("", "\x03\x41"+long(65)+"\x02\x01"),
		"a value of 97 bytes":                    leaf("a", "\x01\x00\x61"+long(97)),
		"a spilled value that is short":          leaf("a", "\x02\x00\x02\x60"),
		"a spilled value with a value behind it": leaf("a", "\x02\x00\x02\x61\x01x"),
		"rests alike":                            leaf("k", "\x01\x01a\x00", "\x01\x01a\x00"),
		"rests falling":                          leaf("k", "\x01\x01b\x00", "\x01\x01a\x00"),
		"a rest behind which its beginning is":   leaf("k", "\x01\x02aa\x00", "\x01\x01a\x00"),
		"a branch's second key alike":            branch("k", "\x03\x02ka\x02\x01", "\x03\x01a\x02\x01", "\x03\x01b\x02\x01"),
		"a branch's second key falling":          branch("k", "\x03\x02kb\x02\x01", "\x03\x01a\x02\x01", "\x03\x01c\x02\x01"),
		"a branch's first rest taken for one":    branch("k", "\x03\x01b\x02\x01", "\x03\x01a\x02\x01", "\x03\x00\x02\x01"),
		"a cell that ends behind its kind":       leaf(long(499), "\x01"),
		"a record of no bytes":                   leaf(long(500), ""),
		"two records of no bytes":                leaf(long(498), "", ""),
	} {
		corrupt(t, what, b)
		if _, _, ok := said(b); ok {
			t.Error(what + ": it is a page")
		}
	}
}

// apart is a leaf whose cells' bytes stand where they are told to, each with a right slot, and a right sum.
func apart(cells []api.Cell, places ...int) []byte {
	b := make([]byte, 512)
	b[0], b[1], b[3] = api.PageLeaf, 2, byte(len(cells))
	for i, c := range cells {
		copy(b[places[i]:], record(c, c.Key))
		binary.BigEndian.PutUint16(b[6+2*i:], uint16(places[i]))
	}
	return summed(b)
}

// P7.3: cells whose slots are right but which do not stand one right behind the other from the slots on, in order.
func TestCellsThatStandElsewhere(t *testing.T) {
	cells := row(value("a", ""), value("b", ""), value("c", ""))
	sameBytes(t, "in their places", apart(cells, 12, 16, 20), laid(api.PageLeaf, cells, 512))
	for what, places := range map[string][]int{
		"a gap behind the slots":  {13, 17, 21},
		"a gap behind the first":  {12, 17, 21},
		"a gap behind the second": {12, 16, 21},
		"at the end":              {496, 500, 504},
		"the last one at the end": {12, 16, 504},
		"in another order":        {16, 12, 20},
		"in a ring":               {16, 20, 12},
		"falling":                 {20, 16, 12},
	} {
		corrupt(t, what, apart(cells, places...))
	}
	corrupt(t, "one cell, told twice", apart(row(cells[0], cells[0]), 10, 10))
	corrupt(t, "a cell within another", apart(row(value("a", "\x01\x01b\x00"), value("b", "")), 10, 14))
}

// P7.3: a full page said to have other cells than it has room for.
func TestCellsThatHaveNoRoom(t *testing.T) {
	for _, kind := range kinds() {
		full := few(kind, 512, 512)
		b := laid(kind, full, 512)
		corrupt(t, "one cell more", bent(b, 3, string([]byte{byte(len(full) + 1)})))
		corrupt(t, "one cell less", bent(b, 3, string([]byte{byte(len(full) - 1)})))
		corrupt(t, "a prefix", bent(b, 4, "\x00\x01"))
		// The last cell would go on in the sum.
		for more := 1; more <= 4; more++ {
			over := few(kind, 512, 512+more)
			cut := laid(kind, over, 1024)[:512]
			corrupt(t, "cells up into the sum", cut)
			corrupt(t, "cells up into the sum, which is right", summed(cut))
		}
	}
}
