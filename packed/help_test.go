package packed_test

import (
	"bytes"
	"encoding/binary"
	"math/rand"
	"strings"
	"testing"

	"espalier/api"
	"espalier/ink"
	"espalier/packed"
)

func value(key, v string) api.Cell {
	return api.Cell{Key: []byte(key), Kind: api.CellValue, Value: []byte(v)}
}

func spill(key string, page, count int) api.Cell {
	return api.Cell{Key: []byte(key), Kind: api.CellSpill, Page: page, Count: count}
}

func tree(key string, page, count int) api.Cell {
	return api.Cell{Key: []byte(key), Kind: api.CellTree, Page: page, Count: count}
}

func child(key string, page, count int) api.Cell {
	return api.Cell{Key: []byte(key), Kind: api.CellChild, Page: page, Count: count}
}

// other is a cell of a page of that kind with this key.
func other(kind int, key string) api.Cell {
	if kind == api.PageBranch {
		return child(key, 65535, 77)
	}
	return value(key, "other")
}

func row(l ...api.Cell) []api.Cell { return l }

// long is a text of n bytes.
func long(n int) string { return strings.Repeat("x", n) }

// sizes are all that a page may have.
func sizes() []int { return []int{512, 1024, 2048, 4096, 8192, 16384, 32768, 65536} }

func kinds() []int { return []int{api.PageLeaf, api.PageBranch} }

// chance is the same row of numbers in every run.
func chance() *rand.Rand { return rand.New(rand.NewSource(7)) }

// share is what the cells share, byte by byte.
func share(kind int, cells []api.Cell) string {
	if kind == api.PageBranch && len(cells) > 0 {
		cells = cells[1:]
	}
	if len(cells) == 0 {
		return ""
	}
	first, n := cells[0].Key, len(cells[0].Key)
	for _, c := range cells {
		n = min(n, len(c.Key))
		for i := range n {
			if c.Key[i] != first[i] {
				n = i
				break
			}
		}
	}
	return string(first[:n])
}

// record is a cell's bytes as the chapter lays them, with that rest of its key, whether the cell may be or not.
func record(c api.Cell, rest []byte) []byte {
	b := []byte{byte(c.Kind)}
	b = append(binary.AppendUvarint(b, uint64(len(rest))), rest...)
	if c.Kind == api.CellValue {
		return append(binary.AppendUvarint(b, uint64(len(c.Value))), c.Value...)
	}
	b = binary.AppendUvarint(b, uint64(c.Page))
	return binary.AppendUvarint(b, uint64(c.Count))
}

// records are the bytes of cells with that prefix.
func records(kind int, cells []api.Cell, prefix string) []string {
	var l []string
	for i, c := range cells {
		rest := c.Key
		if kind != api.PageBranch || i > 0 {
			rest = rest[len(prefix):]
		}
		l = append(l, string(record(c, rest)))
	}
	return l
}

// takenWith is what cells take with a prefix.
func takenWith(kind int, cells []api.Cell, prefix string) int {
	n := 10 + len(prefix)
	for _, r := range records(kind, cells, prefix) {
		n += 2 + len(r)
	}
	return n
}

// size is Size told once more.
func size(kind int, cells []api.Cell) int { return takenWith(kind, cells, share(kind, cells)) }

// pageOf is a page as the chapter's table lays it, with a right sum, of any records that have room in it.
func pageOf(kind int, prefix string, records []string, size int) []byte {
	b := append(make([]byte, 0, size), byte(kind), 2)
	b = binary.BigEndian.AppendUint16(b, uint16(len(records)))
	b = binary.BigEndian.AppendUint16(b, uint16(len(prefix)))
	b = append(b, prefix...)
	at := len(b) + 2*len(records)
	for _, r := range records {
		b = binary.BigEndian.AppendUint16(b, uint16(at))
		at += len(r)
	}
	for _, r := range records {
		b = append(b, r...)
	}
	return summed(b[:size])
}

// laid is the page of these cells, whether they may be or not, if they have room in it.
func laid(kind int, cells []api.Cell, size int) []byte {
	prefix := share(kind, cells)
	return pageOf(kind, prefix, records(kind, cells, prefix), size)
}

// summed is a page with its last four bytes made right.
func summed(b []byte) []byte {
	b = bytes.Clone(b[:len(b)-4])
	return binary.BigEndian.AppendUint32(b, ink.Sum(b))
}

// mayBe is the sixth chapter's table of cells, row by row.
func mayBe(kind, page int, c api.Cell) bool {
	key, val := len(c.Key), len(c.Value)
	mostKey, mostValue := page/8, page*3/16
	some := c.Page >= 2 && c.Page <= 65535
	switch {
	case kind == 2 && c.Kind == 1:
		return key >= 1 && key <= mostKey && val <= mostValue && c.Page == 0 && c.Count == 0
	case kind == 2 && c.Kind == 2:
		return key >= 1 && key <= mostKey && val == 0 && some && c.Count >= mostValue+1 && c.Count <= 65536
	case kind == 2 && c.Kind == 4:
		none := c.Page == 0 && c.Count == 0
		return key >= 1 && key <= mostKey && val == 0 && (none || some && c.Count >= 1 && c.Count <= 1073741824)
	case kind == 3 && c.Kind == 3:
		return key <= mostKey && val == 0 && some && c.Count >= 1 && c.Count <= 1073741824
	}
	return false
}

// ahead tells the order of keys byte by byte.
func ahead(a, b []byte) bool {
	for i := range b {
		if i == len(a) || a[i] < b[i] {
			return true
		}
		if a[i] > b[i] {
			return false
		}
	}
	return false
}

// wanted is what Encode should answer of a kind and a page size that may be.
func wanted(kind int, cells []api.Cell, page int) api.Errno {
	for i, c := range cells {
		if !mayBe(kind, page, c) {
			return api.ErrCell
		}
		if i > 0 && !ahead(cells[i-1].Key, c.Key) {
			return api.ErrOrder
		}
	}
	if size(kind, cells) > page {
		return api.ErrFit
	}
	return api.OK
}

// hasBytes tells whether a cell's bytes say this cell and no other.
func hasBytes(c api.Cell) bool {
	if c.Kind < 0 || c.Kind > 255 {
		return false
	}
	if c.Kind == api.CellValue {
		return c.Page == 0 && c.Count == 0
	}
	return len(c.Value) == 0
}

func same[T comparable](t *testing.T, what string, got, want T) {
	if got != want {
		t.Helper()
		t.Errorf("%s: %+v, want %+v", what, got, want)
	}
}

// sameBytes tells the first byte that differs, for whole pages are too long to print.
func sameBytes(t *testing.T, what string, got, want []byte) {
	t.Helper()
	if len(got) != len(want) {
		t.Errorf("%s: %d bytes, want %d", what, len(got), len(want))
		return
	}
	if bytes.Equal(got, want) {
		return
	}
	for i := range got {
		if got[i] != want[i] {
			t.Errorf("%s: byte %d is %d, want %d", what, i, got[i], want[i])
			return
		}
	}
}

func alike(a, b api.Cell) bool {
	return bytes.Equal(a.Key, b.Key) && a.Kind == b.Kind && bytes.Equal(a.Value, b.Value) && a.Page == b.Page && a.Count == b.Count
}

func sameCell(t *testing.T, what string, got, want api.Cell) {
	if !alike(got, want) {
		t.Helper()
		t.Errorf("%s: %+v, want %+v", what, got, want)
	}
}

func sameCells(t *testing.T, what string, got, want []api.Cell) {
	t.Helper()
	if len(got) != len(want) {
		t.Errorf("%s: %d cells, want %d", what, len(got), len(want))
		return
	}
	for i := range got {
		sameCell(t, what, got[i], want[i])
	}
}

// takes holds what all calls make of cells that may be against the chapter's words.
func takes(t *testing.T, what string, kind int, cells []api.Cell, page int) {
	t.Helper()
	b, e := packed.Encode(kind, cells, page)
	same(t, what+": Encode", e, api.OK)
	sameBytes(t, what+": Encode", b, laid(kind, cells, page))
	same(t, what+": Size", packed.Size(kind, cells), size(kind, cells))
	reads(t, what, laid(kind, cells, page), kind, cells)
}

// reads tells that Decode and Open take b for a page with these cells.
func reads(t *testing.T, what string, b []byte, kind int, cells []api.Cell) {
	t.Helper()
	k, l, e := packed.Decode(b)
	same(t, what+": Decode", e, api.OK)
	same(t, what+": Decode's kind", k, kind)
	sameCells(t, what+": Decode", l, cells)
	p, e := packed.Open(b)
	same(t, what+": Open", e, api.OK)
	if p != nil {
		stands(t, what+": Open", p, anew(kind, len(b), cells))
	}
}

// stands holds all that a page tells against the list that should be the same.
func stands(t *testing.T, what string, p *packed.Page, l *list) {
	t.Helper()
	same(t, what+": Kind", p.Kind(), l.kind)
	same(t, what+": Len", p.Len(), len(l.cells))
	same(t, what+": Prefix", string(p.Prefix()), l.prefix)
	same(t, what+": Waste", p.Waste(), l.waste)
	same(t, what+": Used", p.Used(), takenWith(l.kind, l.cells, l.prefix))
	if p.Used()+p.Waste() > l.page {
		t.Errorf("%s: Used and Waste: %d and %d in a page of %d", what, p.Used(), p.Waste(), l.page)
	}
	sameBytes(t, what+": Bytes", p.Bytes(), laid(l.kind, l.cells, l.page))
	for i, c := range l.cells {
		got, e := p.Cell(i)
		same(t, what+": Cell", e, api.OK)
		sameCell(t, what+": Cell", got, c)
	}
}

// refuses tells that Encode answers e; and that the bytes that would be the page, where the cells have room in one, are none.
func refuses(t *testing.T, what string, kind int, cells []api.Cell, page int, want api.Errno) {
	t.Helper()
	b, e := packed.Encode(kind, cells, page)
	same(t, what+": Encode", e, want)
	same(t, what+": bytes beside the error", len(b), 0)
	for _, c := range cells {
		if !hasBytes(c) {
			return
		}
	}
	if kind >= 0 && kind <= 255 && page >= 10 && page <= 1<<17 && size(kind, cells) <= page {
		corrupt(t, what, laid(kind, cells, page))
	}
}

// corrupt tells that Decode and Open refuse b.
func corrupt(t *testing.T, what string, b []byte) {
	t.Helper()
	kind, cells, e := packed.Decode(b)
	same(t, what+": Decode", e, api.ErrCorrupt)
	same(t, what+": Decode's kind beside the error", kind, 0)
	same(t, what+": cells beside the error", len(cells), 0)
	p, e := packed.Open(b)
	same(t, what+": Open", e, api.ErrCorrupt)
	same(t, what+": Open's page beside the error", p, nil)
}

// made is a new page.
func made(t *testing.T, kind, page int) *packed.Page {
	t.Helper()
	p, e := packed.New(kind, page)
	if e != api.OK || p == nil {
		t.Fatalf("New(%d, %d): %d", kind, page, e)
	}
	return p
}

// filled is a page of these cells, put one behind the other, and a list that became the same so.
func filled(t *testing.T, kind, page int, cells ...api.Cell) (*packed.Page, *list) {
	t.Helper()
	p, l := made(t, kind, page), &list{kind: kind, page: page}
	for i, c := range cells {
		if e, want := p.Insert(i, c), l.insert(i, c); e != want || want != api.OK {
			t.Fatalf("Insert(%d, %+v): %d, want %d", i, c, e, want)
		}
	}
	return p, l
}

// opened is a page of these cells, laid anew, and a list that is the same.
func opened(t *testing.T, kind, page int, cells ...api.Cell) (*packed.Page, *list) {
	t.Helper()
	p, e := packed.Open(laid(kind, cells, page))
	if e != api.OK || p == nil {
		t.Fatalf("Open: %d", e)
	}
	return p, anew(kind, page, cells)
}

// someCells are cells of every kind that may be in such a page.
func someCells(kind, page int) []api.Cell {
	if kind == api.PageBranch {
		return row(child("", 2, 1), child("\x00", 65535, api.MaxLimit), child("a", 127, 128), child("aa\xff", 128, 70000), child("\xff"+long(page/8-1), 16383, 16384))
	}
	return row(
		tree("\x00", 0, 0), value("\x00\x00", ""), value("a", "xy"), spill("a\x00", 2, page*3/16+1), tree("ab", 128, 127),
		spill("b", 65535, 65536), tree("c", 65535, api.MaxLimit), value("\xff"+long(page/8-1), long(page*3/16)),
	)
}
