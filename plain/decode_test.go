package plain_test

import (
	"bytes"
	"encoding/binary"
	"slices"
	"strconv"
	"testing"

	"espalier/api"
	"espalier/plain"
)

// said are the kind and the cells of which b is the page, found through the slots and held against b; false, if there are none.
func said(b []byte) (int, []api.Cell, bool) {
	if !slices.Contains(sizes(), len(b)) || b[0] != 2 && b[0] != 3 {
		return 0, nil, false
	}
	var cells []api.Cell
	for i := range int(binary.BigEndian.Uint16(b[2:])) {
		if 6+2*i > len(b) {
			return 0, nil, false
		}
		c, ok := cellAt(b, int(binary.BigEndian.Uint16(b[4+2*i:])))
		if !ok {
			return 0, nil, false
		}
		cells = append(cells, c)
	}
	if wanted(int(b[0]), cells, len(b)) != api.OK || !bytes.Equal(laid(int(b[0]), cells, len(b)), b) {
		return 0, nil, false
	}
	return int(b[0]), cells, true
}

// cellAt reads a cell's bytes; what goes beyond b is caught.
func cellAt(b []byte, at int) (c api.Cell, ok bool) {
	defer func() { ok = recover() == nil }()
	b = slices.Clip(b)
	n := at + 3 + int(binary.BigEndian.Uint16(b[at+1:]))
	c = api.Cell{Kind: int(b[at]), Key: b[at+3 : n]}
	if c.Kind == api.CellValue {
		c.Value = b[n+2 : n+2+int(binary.BigEndian.Uint16(b[n:]))]
		return c, true
	}
	c.Page, c.Count = int(binary.BigEndian.Uint32(b[n:])), int(binary.BigEndian.Uint32(b[n+4:]))
	return c, true
}

// asSaid holds what Decode makes of any bytes against what they say.
func asSaid(t *testing.T, what string, b []byte) bool {
	t.Helper()
	kind, cells, ok := said(b)
	if !ok {
		corrupt(t, what, b)
		return false
	}
	reads(t, what, b, kind, cells)
	return true
}

// P6.3, P6.7: what Encode wrote is read back, at every size.
func TestReadBack(t *testing.T) {
	for _, page := range sizes() {
		for _, kind := range kinds() {
			for _, cells := range [][]api.Cell{nil, someCells(kind, page)[:2], many(kind, page), few(kind, page, page)} {
				b, e := plain.Encode(kind, cells, page)
				same(t, "Encode", e, api.OK)
				reads(t, "what was written", b, kind, cells)
			}
		}
	}
}

// P6.3: of other lengths there are no pages, whatever the sum.
func TestOtherLengths(t *testing.T) {
	corrupt(t, "nil", nil)
	corrupt(t, "no bytes", []byte{})
	for _, page := range sizes() {
		b := laid(api.PageLeaf, row(value("a", "xy")), page)
		for _, n := range []int{1, 2, 3, 4, 5, 8, 18, page / 2, page - 4, page - 1} {
			corrupt(t, "too few bytes", b[:n])
		}
		corrupt(t, "a byte too many", append(bytes.Clone(b), 0))
		corrupt(t, "two in a row", append(bytes.Clone(b), b...))
		if page < 65536 {
			// A greater page, but for its slots, which would be right in the lesser one.
			corrupt(t, "twice as many", summed(append(bytes.Clone(b[:len(b)-4]), make([]byte, page+4)...)))
		}
	}
	for _, n := range []int{8, 18, 256, 500, 511, 513, 514, 768, 1023, 1025, 65535, 65537, 131072} {
		corrupt(t, strconv.Itoa(n)+" bytes, laid rightly", laid(api.PageLeaf, nil, n))
		if n >= 18 {
			corrupt(t, strconv.Itoa(n)+" bytes, a cell, laid rightly", laid(api.PageLeaf, row(value("a", "xy")), n))
		}
	}
	for n := range 600 {
		asSaid(t, "zeros", make([]byte, n))
		asSaid(t, "bytes FF", bytes.Repeat([]byte{0xff}, n))
	}
}

// P6.3: every byte of a page turned, with the old sum and with a right one.
func TestEveryByteTurned(t *testing.T) {
	for _, x := range []struct {
		kind  int
		cells []api.Cell
	}{
		{api.PageLeaf, nil},
		{api.PageLeaf, row(value("a", "xy"))},
		{api.PageLeaf, row(value("a", ""), spill("b", 300, 97), tree("c", 0, 0), tree("d", 9, 70000))},
		{api.PageBranch, nil},
		{api.PageBranch, row(child("", 7, 3), child("a", 300, 70000))},
		{api.PageLeaf, few(api.PageLeaf, 512, 512)},
	} {
		good := laid(x.kind, x.cells, 512)
		taken := 0
		for i := range good {
			for _, by := range []byte{1, 2, 3, 4, 5, 6, 7, 0x10, 0x20, 0x40, 0x80, 0xff} {
				b := bytes.Clone(good)
				b[i] ^= by
				corrupt(t, "byte "+strconv.Itoa(i)+", the old sum", b)
				if i < 508 && asSaid(t, "byte "+strconv.Itoa(i)+", a right sum", summed(b)) {
					taken++
				}
			}
		}
		if len(x.cells) > 0 && taken == 0 {
			t.Error("no other page came of it")
		}
	}
}

// P6.3: two bytes of a page's head, its slots and its cells set to anything, with a right sum.
func TestTurnedAtRandom(t *testing.T) {
	r := chance()
	for range 20000 {
		kind := kinds()[r.Intn(2)]
		l := &list{kind: kind, page: 512}
		for range r.Intn(6) {
			c := anyCell(r, kind, 512)
			at, _ := l.find(c.Key)
			l.insert(at, c)
		}
		b := laid(kind, l.cells, 512)
		places := size(l.cells)
		for range 1 + r.Intn(2) {
			at := r.Intn(places)
			if at >= 4+2*len(l.cells) {
				at = 512 - (places - at)
			}
			b[at] = byte([]int{0, 1, 2, 3, 4, 255, r.Intn(256), int(b[at]) + 1}[r.Intn(8)])
		}
		asSaid(t, "turned", summed(b))
	}
}

// bent are the bytes of a page of 512 bytes with some set anew, and a right sum.
func bent(b []byte, at int, by string) []byte {
	b = bytes.Clone(b)
	copy(b[at:], by)
	return summed(b)
}

// P6.3: pages with a right sum that are wrong in one thing.
func TestWrongInOneThing(t *testing.T) {
	// The first cell's bytes begin at 486 (1e6), the second's at 494 (1ee), the third's at 501 (1f5).
	cells := row(value("a", "xy"), value("b", "z"), value("c", "v"))
	good := laid(api.PageLeaf, cells, 512)
	reads(t, "the good one", good, api.PageLeaf, cells)
	same(t, "its first slot", string(good[4:10]), "\x01\xe6\x01\xee\x01\xf5")
	// The first cell's page stands at 488, its count at 492; the second's key's length at 497.
	branch := laid(api.PageBranch, row(child("", 7, 3), child("a", 8, 4)), 512)
	none := laid(api.PageLeaf, nil, 512)
	for what, b := range map[string][]byte{
		"kind 0":                      bent(good, 0, "\x00"),
		"kind 1":                      bent(good, 0, "\x01"),
		"kind 4":                      bent(good, 0, "\x04"),
		"kind 255":                    bent(good, 0, "\xff"),
		"a leaf said to be a branch":  bent(good, 0, "\x03"),
		"a branch said to be a leaf":  bent(branch, 0, "\x02"),
		"no cells, of no kind":        bent(none, 0, "\x05"),
		"engine 0":                    bent(good, 1, "\x00"),
		"engine 2":                    bent(good, 1, "\x02"),
		"no cells, engine 2":          bent(none, 1, "\x02"),
		"n 0":                         bent(good, 2, "\x00\x00"),
		"n one less":                  bent(good, 2, "\x00\x02"),
		"n one more":                  bent(good, 2, "\x00\x04"),
		"n 259":                       bent(good, 2, "\x01\x03"),
		"n 252, as many as have room": bent(good, 2, "\x00\xfc"),
		"n 65535":                     bent(good, 2, "\xff\xff"),
		"n 1, of no cells":            bent(none, 2, "\x00\x01"),
		"n 1, at the end":             bent(none, 2, "\x00\x01\x01\xfc"),
		"n 1, behind the end":         bent(none, 2, "\x00\x01\x01\xfd"),
		"n 252, of no cells":          bent(none, 2, "\x00\xfc"),
		"n 253, of no cells":          bent(none, 2, "\x00\xfd"),
		"n 65535, of no cells":        bent(none, 2, "\xff\xff"),
		"the first slot one less":     bent(good, 4, "\x01\xe5"),
		"the first slot one more":     bent(good, 4, "\x01\xe7"),
		"the first slot 0":            bent(good, 4, "\x00\x00"),
		"the first slot 4":            bent(good, 4, "\x00\x04"),
		"the first slot at the end":   bent(good, 4, "\x01\xfc"),
		"the first slot beyond":       bent(good, 4, "\xff\xff"),
		"the second slot one less":    bent(good, 6, "\x01\xed"),
		"the second slot one more":    bent(good, 6, "\x01\xef"),
		"the second slot 0":           bent(good, 6, "\x00\x00"),
		"the last slot one more":      bent(good, 8, "\x01\xf6"),
		"the last slot beyond":        bent(good, 8, "\xff\xff"),
		"two slots alike":             bent(good, 6, "\x01\xe6"),
		"slots changed about":         bent(good, 4, "\x01\xee\x01\xe6"),
		"a byte behind the slots":     bent(good, 10, "\x01"),
		"a byte in the middle":        bent(good, 250, "\x80"),
		"a byte ahead of the cells":   bent(good, 485, "\xff"),
		"no cells, a byte":            bent(none, 4, "\x01"),
		"no cells, the last byte":     bent(none, 507, "\x01"),
		"a key of no bytes":           bent(good, 487, "\x00\x00"),
		"a key one shorter":           bent(branch, 497, "\x00\x00"),
		"a key beyond the page":       bent(good, 487, "\xff\xff"),
		"a key just beyond the page":  bent(good, 502, "\x00\x05"),
		"a value one longer":          bent(good, 490, "\x00\x03"),
		"a value one shorter":         bent(good, 490, "\x00\x01"),
		"the last value one longer":   bent(good, 505, "\x00\x02"),
		"the last value one shorter":  bent(good, 505, "\x00\x00"),
		"a value beyond the page":     bent(good, 505, "\xff\xff"),
		"a cell of kind 0":            bent(good, 501, "\x00"),
		"a spill that has no room":    bent(good, 501, "\x02"),
		"a child in a leaf":           bent(good, 501, "\x03"),
		"a cell of kind 255":          bent(good, 486, "\xff"),
		"a child with page 1":         bent(branch, 488, "\x00\x00\x00\x01"),
		"a child with page 65536":     bent(branch, 488, "\x00\x01\x00\x00"),
		"a child with page 2^31 + 7":  bent(branch, 488, "\x80\x00\x00\x07"),
		"a child with count 0":        bent(branch, 492, "\x00\x00\x00\x00"),
		"a child with count 2^30 + 1": bent(branch, 492, "\x40\x00\x00\x01"),
		"a child with count 2^32 - 1": bent(branch, 492, "\xff\xff\xff\xff"),
		"keys alike":                  bent(good, 497, "a"),
		"keys falling":                bent(good, 497, "\x00"),
		"the last key falling":        bent(good, 504, "b"),
	} {
		corrupt(t, what, b)
		if _, _, ok := said(b); ok {
			t.Error(what + ": it is a page")
		}
	}
}

// apart is a page whose cells' bytes stand where they are told to, each with a right slot, and a right sum.
func apart(cells []api.Cell, places ...int) []byte {
	b := make([]byte, 512)
	b[0], b[1], b[3] = api.PageLeaf, 1, byte(len(cells))
	for i, c := range cells {
		copy(b[places[i]:], record(c))
		binary.BigEndian.PutUint16(b[4+2*i:], uint16(places[i]))
	}
	return summed(b)
}

// P6.3: cells whose slots are right but which do not stand one right behind the other up to the end, in order.
func TestCellsThatStandElsewhere(t *testing.T) {
	cells := row(value("a", ""), value("b", ""), value("c", ""))
	sameBytes(t, "in their places", apart(cells, 490, 496, 502), laid(api.PageLeaf, cells, 512))
	for what, places := range map[string][]int{
		"a gap behind the first":  {489, 496, 502},
		"a gap behind the second": {489, 495, 502},
		"a gap at the end":        {489, 495, 501},
		"right behind the slots":  {10, 16, 22},
		"in another order":        {496, 490, 502},
		"in a ring":               {496, 502, 490},
		"falling":                 {502, 496, 490},
	} {
		corrupt(t, what, apart(cells, places...))
	}
	corrupt(t, "one cell, told twice", apart(row(cells[0], cells[0]), 502, 502))
	corrupt(t, "a cell within another", apart(row(value("a", "\x01\x00\x01b\x00\x00"), value("b", "")), 496, 502))
}

// P6.3: cells whose bytes would take those of the slots, or of the head, or of the sum.
func TestCellsThatHaveNoRoom(t *testing.T) {
	full := few(api.PageLeaf, 512, 512)
	b := laid(api.PageLeaf, full, 512)
	first := int(binary.BigEndian.Uint16(b[4:]))
	same(t, "the first cell of a full page", first, 4+2*len(full))
	corrupt(t, "one cell more", bent(b, 3, string([]byte{byte(len(full) + 1)})))
	corrupt(t, "one cell less", bent(b, 3, string([]byte{byte(len(full) - 1)})))
	for at := range first {
		corrupt(t, "the first slot lower", bent(b, 4, string([]byte{0, byte(at)})))
	}
	corrupt(t, "the page read from its head on", bent(laid(api.PageLeaf, nil, 512), 2, "\x00\x01\x00\x00"))
}

// P6.3: cells that are too many by some bytes, laid so that the first one's bytes stand over the last slots.
func TestCellsOverSlots(t *testing.T) {
	for _, page := range sizes() {
		for _, kind := range kinds() {
			for more := 1; more <= 4; more++ {
				corrupt(t, "few", laid(kind, few(kind, page, page+more), page))
			}
			cells := many(kind, page)
			for more := 1; more <= 40; more += 13 {
				over := stretched(cells, page-size(cells)+more)
				corrupt(t, "many", laid(kind, over, page))
			}
		}
	}
}
