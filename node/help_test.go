package node_test

import (
	"bytes"
	"encoding/binary"
	"math"
	"math/rand"
	"slices"
	"strconv"
	"strings"
	"testing"

	"espalier/api"
	"espalier/ink"
	"espalier/node"
)

func value(key, v string) api.Cell {
	return api.Cell{Key: []byte(key), Kind: api.CellValue, Value: []byte(v)}
}

func spill(key string, page, count int) api.Cell {
	return api.Cell{Key: []byte(key), Kind: api.CellSpill, Page: page, Count: count}
}

func tree(key string, page, count int) api.Cell {
	return api.Cell{Key: []byte(key), Kind: api.CellTree, Page: page, Count: count}
}

func child(key string, page, count int) api.Cell {
	return api.Cell{Key: []byte(key), Kind: api.CellChild, Page: page, Count: count}
}

// other is a cell of a page of that kind with this key.
func other(kind int, key string) api.Cell {
	if kind == api.PageBranch {
		return child(key, 65535, 77)
	}
	return value(key, "other")
}

func row(l ...api.Cell) []api.Cell { return l }

// long is a text of n bytes.
func long(n int) string { return strings.Repeat("x", n) }

// keyOf is the i-th of a row of rising keys of two bytes.
func keyOf(i int) string { return string([]byte{byte(i >> 8), byte(i)}) }

// rowOf are n small cells with rising keys, the first one of a branch with the empty key.
func rowOf(kind, n int) []api.Cell {
	var cells []api.Cell
	for i := range n {
		switch {
		case kind == api.PageLeaf:
			cells = append(cells, value(keyOf(i), strconv.Itoa(i)))
		case i == 0:
			cells = append(cells, child("", 2, 1))
		default:
			cells = append(cells, child(keyOf(i), 2+i, 1+i))
		}
	}
	return cells
}

// sizes are all that a page may have.
func sizes() []int { return []int{512, 1024, 2048, 4096, 8192, 16384, 32768, 65536} }

func kinds() []int { return []int{api.PageLeaf, api.PageBranch} }

func engines() []int { return []int{api.Plain, api.Packed} }

// someSizes are powers of two, what stands beside them, and numbers far off.
func someSizes() []int {
	l := []int{0, -1, -2, -512, -65536, 500, 768, 1536, 65024, 66048, 98304, 1<<32 + 512, 1 << 32, 1 << 62, math.MinInt, math.MinInt + 512, math.MinInt + 1, math.MaxInt, math.MaxInt - 1}
	for n := 1; n <= 1<<20; n *= 2 {
		l = append(l, n-1, n, n+1)
	}
	return l
}

func someKinds() []int {
	return []int{math.MinInt, -2, -1, 0, 1, 2, 3, 4, 5, 6, 7, 258, 259, 1<<32 + 2, math.MaxInt}
}

func someEngines() []int {
	return []int{math.MinInt, -256, -3, -2, -1, 0, 1, 2, 3, 4, 5, 255, 256, 257, 258, 1<<32 + 1, 1<<32 + 2, math.MaxInt}
}

// somePlaces are places of a node that has n cells, and what is none.
func somePlaces(n int) []int {
	l := []int{math.MinInt, math.MinInt + 1, -1 << 32, math.MaxInt, math.MaxInt - 1, 1 << 32, 1 << 16}
	for i := -3; i <= n+3; i++ {
		l = append(l, i)
	}
	return l
}

func isEngine(engine int) bool { return engine == 1 || engine == 2 }

func isKind(kind int) bool { return kind == 2 || kind == 3 }

func isSize(page int) bool { return slices.Contains(sizes(), page) }

// chance is the same row of numbers in every run.
func chance() *rand.Rand { return rand.New(rand.NewSource(8)) }

// share is what the cells of a packed page share, byte by byte.
func share(kind int, cells []api.Cell) string {
	if kind == api.PageBranch && len(cells) > 0 {
		cells = cells[1:]
	}
	if len(cells) == 0 {
		return ""
	}
	first, n := cells[0].Key, len(cells[0].Key)
	for _, c := range cells {
		n = min(n, len(c.Key))
		for i := range n {
			if c.Key[i] != first[i] {
				n = i
				break
			}
		}
	}
	return string(first[:n])
}

// records are the cells' bytes as the engine's chapter lays them.
func records(engine, kind int, cells []api.Cell) []string {
	var l []string
	prefix := len(share(kind, cells))
	for i, c := range cells {
		switch {
		case engine == api.Plain:
			l = append(l, string(plainRecord(c)))
		case kind == api.PageBranch && i == 0:
			l = append(l, string(packedRecord(c, c.Key)))
		default:
			l = append(l, string(packedRecord(c, c.Key[prefix:])))
		}
	}
	return l
}

func plainRecord(c api.Cell) []byte {
	b := binary.BigEndian.AppendUint16([]byte{byte(c.Kind)}, uint16(len(c.Key)))
	b = append(b, c.Key...)
	if c.Kind == api.CellValue {
		b = binary.BigEndian.AppendUint16(b, uint16(len(c.Value)))
		return append(b, c.Value...)
	}
	b = binary.BigEndian.AppendUint32(b, uint32(c.Page))
	return binary.BigEndian.AppendUint32(b, uint32(c.Count))
}

func packedRecord(c api.Cell, rest []byte) []byte {
	b := append(binary.AppendUvarint([]byte{byte(c.Kind)}, uint64(len(rest))), rest...)
	if c.Kind == api.CellValue {
		return append(binary.AppendUvarint(b, uint64(len(c.Value))), c.Value...)
	}
	b = binary.AppendUvarint(b, uint64(c.Page))
	return binary.AppendUvarint(b, uint64(c.Count))
}

// uvarintLen is how long ink.Uint is of n.
func uvarintLen(n int) int { return len(binary.AppendUvarint(nil, uint64(n))) }

// size is the engine's Size told once more, of any cells.
func size(engine, kind int, cells []api.Cell) int {
	if engine == api.Plain {
		n := 8
		for _, c := range cells {
			if c.Kind == api.CellValue {
				n += 7 + len(c.Key) + len(c.Value)
			} else {
				n += 13 + len(c.Key)
			}
		}
		return n
	}
	prefix := len(share(kind, cells))
	n := 10 + prefix
	for i, c := range cells {
		rest := len(c.Key) - prefix
		if kind == api.PageBranch && i == 0 {
			rest = len(c.Key)
		}
		n += 2 + 1 + uvarintLen(rest) + rest
		if c.Kind == api.CellValue {
			n += uvarintLen(len(c.Value)) + len(c.Value)
		} else {
			n += uvarintLen(c.Page) + uvarintLen(c.Count)
		}
	}
	return n
}

// laid is the page of these cells, if they have room in it.
func laid(engine, kind int, cells []api.Cell, page int) []byte {
	l := records(engine, kind, cells)
	b := binary.BigEndian.AppendUint16([]byte{byte(kind), byte(engine)}, uint16(len(cells)))
	body := strings.Join(l, "")
	at := page - 4 - len(body)
	if engine == api.Packed {
		prefix := share(kind, cells)
		b = binary.BigEndian.AppendUint16(b, uint16(len(prefix)))
		b = append(b, prefix...)
		at = len(b) + 2*len(l)
	}
	from := at
	for _, r := range l {
		b = binary.BigEndian.AppendUint16(b, uint16(at))
		at += len(r)
	}
	whole := append(b, make([]byte, page-len(b))...)
	copy(whole[from:], body)
	return summed(whole)
}

// summed is a page with its last four bytes made right.
func summed(b []byte) []byte {
	b = bytes.Clone(b[:len(b)-4])
	return binary.BigEndian.AppendUint32(b, ink.Sum(b))
}

// mayBe is the sixth chapter's table of cells, row by row.
func mayBe(kind, page int, c api.Cell) bool {
	key, val := len(c.Key), len(c.Value)
	mostKey, mostValue := page/8, page*3/16
	some := c.Page >= 2 && c.Page <= 65535
	switch {
	case kind == 2 && c.Kind == 1:
		return key >= 1 && key <= mostKey && val <= mostValue && c.Page == 0 && c.Count == 0
	case kind == 2 && c.Kind == 2:
		return key >= 1 && key <= mostKey && val == 0 && some && c.Count >= mostValue+1 && c.Count <= 65536
	case kind == 2 && c.Kind == 4:
		none := c.Page == 0 && c.Count == 0
		return key >= 1 && key <= mostKey && val == 0 && (none || some && c.Count >= 1 && c.Count <= 1073741824)
	case kind == 3 && c.Kind == 3:
		return key <= mostKey && val == 0 && some && c.Count >= 1 && c.Count <= 1073741824
	}
	return false
}

// ahead tells the order of keys byte by byte.
func ahead(a, b []byte) bool {
	for i := range b {
		if i == len(a) || a[i] < b[i] {
			return true
		}
		if a[i] > b[i] {
			return false
		}
	}
	return false
}

// wanted is what Encode should answer.
func wanted(engine, kind int, cells []api.Cell, page int) api.Errno {
	if !isEngine(engine) {
		return api.ErrEngine
	}
	if !isKind(kind) || !isSize(page) {
		return api.ErrArg
	}
	for i, c := range cells {
		if !mayBe(kind, page, c) {
			return api.ErrCell
		}
		if i > 0 && !ahead(cells[i-1].Key, c.Key) {
			return api.ErrOrder
		}
	}
	if size(engine, kind, cells) > page {
		return api.ErrFit
	}
	return api.OK
}

func same[T comparable](t *testing.T, what string, got, want T) {
	if got != want {
		t.Helper()
		t.Errorf("%s: %+v, want %+v", what, got, want)
	}
}

// sameBytes tells the first byte that differs, for whole pages are too long to print.
func sameBytes(t *testing.T, what string, got, want []byte) {
	t.Helper()
	if len(got) != len(want) {
		t.Errorf("%s: %d bytes, want %d", what, len(got), len(want))
		return
	}
	for i := range got {
		if got[i] != want[i] {
			t.Errorf("%s: byte %d is %d, want %d", what, i, got[i], want[i])
			return
		}
	}
}

func sameCell(t *testing.T, what string, got, want api.Cell) {
	if !bytes.Equal(got.Key, want.Key) || got.Kind != want.Kind || !bytes.Equal(got.Value, want.Value) || got.Page != want.Page || got.Count != want.Count {
		t.Helper()
		t.Errorf("%s: %+v, want %+v", what, got, want)
	}
}

func sameCells(t *testing.T, what string, got, want []api.Cell) {
	t.Helper()
	if len(got) != len(want) {
		t.Errorf("%s: %d cells, want %d", what, len(got), len(want))
		return
	}
	for i := range got {
		sameCell(t, what, got[i], want[i])
	}
}

// named tells which try it is.
func named(what string, numbers ...int) string {
	for _, n := range numbers {
		what += " " + strconv.Itoa(n)
	}
	return what
}

// made is a new node.
func made(t *testing.T, engine, kind, page int) node.Node {
	t.Helper()
	n, e := node.New(engine, kind, page)
	if e != api.OK || n == nil {
		t.Fatalf("New(%d, %d, %d): %d", engine, kind, page, e)
	}
	return n
}

// opened is a node of these cells.
func opened(t *testing.T, engine, kind, page int, cells ...api.Cell) node.Node {
	t.Helper()
	n, e := node.Open(laid(engine, kind, cells, page))
	if e != api.OK || n == nil {
		t.Fatalf("Open: %d", e)
	}
	return n
}

// stands holds what a node tells against the cells that it should have.
func stands(t *testing.T, what string, n node.Node, engine, kind int, cells []api.Cell, page int) {
	t.Helper()
	same(t, what+": Kind", n.Kind(), kind)
	same(t, what+": Len", n.Len(), len(cells))
	sameCells(t, what+": Cells", node.Cells(n), cells)
	for i, c := range cells {
		got, e := n.Cell(i)
		same(t, what+": Cell", e, api.OK)
		sameCell(t, what+": Cell", got, c)
	}
	sameBytes(t, what+": Bytes", n.Bytes(), laid(engine, kind, cells, page))
	if engine == api.Plain {
		same(t, what+": Used", n.Used(), size(engine, kind, cells))
	}
	if n.Used() > page {
		t.Errorf("%s: Used is %d", what, n.Used())
	}
}

// reads tells that Decode and Open take b for a page of this engine with these cells.
func reads(t *testing.T, what string, b []byte, engine, kind int, cells []api.Cell) {
	t.Helper()
	g, k, l, e := node.Decode(b)
	same(t, what+": Decode", e, api.OK)
	same(t, what+": Decode's engine", g, engine)
	same(t, what+": Decode's kind", k, kind)
	sameCells(t, what+": Decode", l, cells)
	n, e := node.Open(b)
	same(t, what+": Open", e, api.OK)
	if n == nil {
		t.Errorf("%s: Open: nil", what)
		return
	}
	stands(t, what+": Open", n, engine, kind, cells, len(b))
	same(t, what+": Open's Used", n.Used(), size(engine, kind, cells))
}

// corrupt tells that Decode and Open refuse b.
func corrupt(t *testing.T, what string, b []byte) {
	t.Helper()
	engine, kind, cells, e := node.Decode(b)
	same(t, what+": Decode", e, api.ErrCorrupt)
	same(t, what+": Decode's engine beside the error", engine, 0)
	same(t, what+": Decode's kind beside the error", kind, 0)
	same(t, what+": cells beside the error", len(cells), 0)
	n, e := node.Open(b)
	same(t, what+": Open", e, api.ErrCorrupt)
	same(t, what+": Open's node is nil", n == nil, true)
}

// someCells are cells of every kind that may be in such a page; together they fit into it.
func someCells(kind, page int) []api.Cell {
	if kind == api.PageBranch {
		return row(child("", 2, 1), child("\x00", 65535, api.MaxLimit), child("a", 127, 128), child("aa\xff", 128, 70000), child("\xff"+long(page/8-1), 16383, 16384))
	}
	return row(
		tree("\x00", 0, 0), value("\x00\x00", ""), value("a", "xy"), spill("a\x00", 2, page*3/16+1), tree("ab", 128, 127),
		spill("b", 65535, 65536), tree("c", 65535, api.MaxLimit), value("\xff"+long(page/8-1), long(page*3/16)),
	)
}
