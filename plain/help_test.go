package plain_test

import (
	"bytes"
	"encoding/binary"
	"math"
	"math/rand"
	"slices"
	"testing"

	"espalier/api"
	"espalier/ink"
	"espalier/plain"
)

func value(key, v string) api.Cell {
	return api.Cell{Key: []byte(key), Kind: api.CellValue, Value: []byte(v)}
}

func spill(key string, page, count int) api.Cell {
	return api.Cell{Key: []byte(key), Kind: api.CellSpill, Page: page, Count: count}
}

func tree(key string, page, count int) api.Cell {
	return api.Cell{Key: []byte(key), Kind: api.CellTree, Page: page, Count: count}
}

func child(key string, page, count int) api.Cell {
	return api.Cell{Key: []byte(key), Kind: api.CellChild, Page: page, Count: count}
}

func row(l ...api.Cell) []api.Cell { return l }

// long is a text of n bytes.
func long(n int) string { return string(bytes.Repeat([]byte("x"), n)) }

// sizes are all that a page may have.
func sizes() []int { return []int{512, 1024, 2048, 4096, 8192, 16384, 32768, 65536} }

func kinds() []int { return []int{api.PageLeaf, api.PageBranch} }

// chance is the same row of numbers in every run.
func chance() *rand.Rand { return rand.New(rand.NewSource(6)) }

// record is a cell's bytes as the chapter lays them, whether the cell may be or not.
func record(c api.Cell) []byte {
	b := []byte{byte(c.Kind)}
	b = append(binary.BigEndian.AppendUint16(b, uint16(len(c.Key))), c.Key...)
	if c.Kind == api.CellValue {
		return append(binary.BigEndian.AppendUint16(b, uint16(len(c.Value))), c.Value...)
	}
	b = binary.BigEndian.AppendUint32(b, uint32(c.Page))
	return binary.BigEndian.AppendUint32(b, uint32(c.Count))
}

// laid is a page as the chapter's table lays it, with a right sum, whether the cells may be or not, if they have room in it.
func laid(kind int, cells []api.Cell, size int) []byte {
	b := make([]byte, size)
	at := size - 4
	for i, c := range slices.Backward(cells) {
		r := record(c)
		at -= len(r)
		copy(b[at:], r)
		binary.BigEndian.PutUint16(b[4+2*i:], uint16(at))
	}
	b[0], b[1] = byte(kind), 1
	binary.BigEndian.PutUint16(b[2:], uint16(len(cells)))
	return summed(b)
}

// summed is a page with its last four bytes made right.
func summed(b []byte) []byte {
	b = bytes.Clone(b[:len(b)-4])
	return binary.BigEndian.AppendUint32(b, ink.Sum(b))
}

// size is Size told once more.
func size(cells []api.Cell) int {
	n := 8
	for _, c := range cells {
		n += 2 + len(record(c))
	}
	return n
}

// mayBe is the chapter's table of cells, row by row.
func mayBe(kind, page int, c api.Cell) bool {
	key, val := len(c.Key), len(c.Value)
	mostKey, mostValue := page/8, page*3/16
	some := c.Page >= 2 && c.Page <= 65535
	switch {
	case kind == 2 && c.Kind == 1:
		return key >= 1 && key <= mostKey && val <= mostValue && c.Page == 0 && c.Count == 0
	case kind == 2 && c.Kind == 2:
		return key >= 1 && key <= mostKey && val == 0 && some && c.Count >= mostValue+1 && c.Count <= 65536
	case kind == 2 && c.Kind == 4:
		none := c.Page == 0 && c.Count == 0
		return key >= 1 && key <= mostKey && val == 0 && (none || some && c.Count >= 1 && c.Count <= 1073741824)
	case kind == 3 && c.Kind == 3:
		return key <= mostKey && val == 0 && some && c.Count >= 1 && c.Count <= 1073741824
	}
	return false
}

// ahead tells the order of keys byte by byte.
func ahead(a, b []byte) bool {
	for i := range b {
		if i == len(a) || a[i] < b[i] {
			return true
		}
		if a[i] > b[i] {
			return false
		}
	}
	return false
}

// wanted is what Encode should answer of a kind and a page size that may be.
func wanted(kind int, cells []api.Cell, page int) api.Errno {
	for i, c := range cells {
		if !mayBe(kind, page, c) {
			return api.ErrCell
		}
		if i > 0 && !ahead(cells[i-1].Key, c.Key) {
			return api.ErrOrder
		}
	}
	if size(cells) > page {
		return api.ErrFit
	}
	return api.OK
}

// hasBytes tells whether the cell's fields have room in its bytes, so that these say this cell and no other.
func hasBytes(c api.Cell) bool {
	if c.Kind < 0 || c.Kind > 255 || len(c.Key) > 65535 || len(c.Value) > 65535 {
		return false
	}
	if c.Kind == api.CellValue {
		return c.Page == 0 && c.Count == 0
	}
	return len(c.Value) == 0 && c.Page >= 0 && c.Page <= math.MaxUint32 && c.Count >= 0 && c.Count <= math.MaxUint32
}

func same[T comparable](t *testing.T, what string, got, want T) {
	t.Helper()
	if got != want {
		t.Errorf("%s: %+v, want %+v", what, got, want)
	}
}

// sameBytes tells the first byte that differs, for whole pages are too long to print.
func sameBytes(t *testing.T, what string, got, want []byte) {
	t.Helper()
	if len(got) != len(want) {
		t.Errorf("%s: %d bytes, want %d", what, len(got), len(want))
		return
	}
	for i := range got {
		if got[i] != want[i] {
			t.Errorf("%s: byte %d is %d, want %d", what, i, got[i], want[i])
			return
		}
	}
}

func alike(a, b api.Cell) bool {
	return bytes.Equal(a.Key, b.Key) && a.Kind == b.Kind && bytes.Equal(a.Value, b.Value) && a.Page == b.Page && a.Count == b.Count
}

func sameCell(t *testing.T, what string, got, want api.Cell) {
	t.Helper()
	if !alike(got, want) {
		t.Errorf("%s: %+v, want %+v", what, got, want)
	}
}

func sameCells(t *testing.T, what string, got, want []api.Cell) {
	t.Helper()
	if len(got) != len(want) {
		t.Errorf("%s: %d cells, want %d", what, len(got), len(want))
		return
	}
	for i := range got {
		sameCell(t, what, got[i], want[i])
	}
}

// takes holds what all calls make of cells that may be against the chapter's words.
func takes(t *testing.T, what string, kind int, cells []api.Cell, page int) {
	t.Helper()
	b, e := plain.Encode(kind, cells, page)
	same(t, what+": Encode", e, api.OK)
	sameBytes(t, what+": Encode", b, laid(kind, cells, page))
	same(t, what+": Size", plain.Size(kind, cells), size(cells))
	reads(t, what, laid(kind, cells, page), kind, cells)
}

// reads tells that Decode and Open take b for a page with these cells.
func reads(t *testing.T, what string, b []byte, kind int, cells []api.Cell) {
	t.Helper()
	k, l, e := plain.Decode(b)
	same(t, what+": Decode", e, api.OK)
	same(t, what+": Decode's kind", k, kind)
	sameCells(t, what+": Decode", l, cells)
	p, e := plain.Open(b)
	same(t, what+": Open", e, api.OK)
	if p != nil {
		stands(t, what+": Open", p, kind, cells, len(b))
	}
}

// stands holds all that a page tells against its cells.
func stands(t *testing.T, what string, p *plain.Page, kind int, cells []api.Cell, page int) {
	t.Helper()
	same(t, what+": Kind", p.Kind(), kind)
	same(t, what+": Len", p.Len(), len(cells))
	same(t, what+": Used", p.Used(), size(cells))
	sameBytes(t, what+": Bytes", p.Bytes(), laid(kind, cells, page))
	for i, c := range cells {
		got, e := p.Cell(i)
		same(t, what+": Cell", e, api.OK)
		sameCell(t, what+": Cell", got, c)
	}
}

// refuses tells that Encode answers e; and that the bytes that would be the page, where the cells' fields and sizes have room in one, are none.
func refuses(t *testing.T, what string, kind int, cells []api.Cell, page int, want api.Errno) {
	t.Helper()
	b, e := plain.Encode(kind, cells, page)
	same(t, what+": Encode", e, want)
	same(t, what+": bytes beside the error", len(b), 0)
	for _, c := range cells {
		if !hasBytes(c) {
			return
		}
	}
	if kind >= 0 && kind <= 255 && page >= 8 && page <= 1<<17 && size(cells) <= page {
		corrupt(t, what, laid(kind, cells, page))
	}
}

// corrupt tells that Decode and Open refuse b.
func corrupt(t *testing.T, what string, b []byte) {
	t.Helper()
	kind, cells, e := plain.Decode(b)
	same(t, what+": Decode", e, api.ErrCorrupt)
	same(t, what+": Decode's kind beside the error", kind, 0)
	same(t, what+": cells beside the error", len(cells), 0)
	p, e := plain.Open(b)
	same(t, what+": Open", e, api.ErrCorrupt)
	same(t, what+": Open's page beside the error", p, nil)
}

// made is a new page.
func made(t *testing.T, kind, page int) *plain.Page {
	t.Helper()
	p, e := plain.New(kind, page)
	if e != api.OK || p == nil {
		t.Fatalf("New(%d, %d): %d", kind, page, e)
	}
	return p
}

// filled is a page of these cells, put one behind the other.
func filled(t *testing.T, kind, page int, cells ...api.Cell) *plain.Page {
	t.Helper()
	p := made(t, kind, page)
	for i, c := range cells {
		if e := p.Insert(i, c); e != api.OK {
			t.Fatalf("Insert(%d, %+v): %d", i, c, e)
		}
	}
	return p
}

// someCells are cells of every kind that may be in such a page.
func someCells(kind, page int) []api.Cell {
	if kind == api.PageBranch {
		return row(child("", 2, 1), child("\x00", 65535, api.MaxLimit), child("a", 7, 3), child("aa\xff", 300, 70000), child("\xff"+long(page/8-1), 2, 2))
	}
	return row(
		tree("\x00", 0, 0), value("\x00\x00", ""), value("a", "xy"), spill("a\x00", 2, page*3/16+1), tree("ab", 2, 1),
		spill("b", 65535, 65536), tree("c", 65535, api.MaxLimit), value("\xff"+long(page/8-1), long(page*3/16)),
	)
}
