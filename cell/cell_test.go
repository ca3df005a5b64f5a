package cell_test

import (
	"bytes"
	"math"
	"testing"

	"espalier/api"
	"espalier/cell"
)

func same[T comparable](t *testing.T, what string, got, want T) {
	t.Helper()
	if got != want {
		t.Errorf("%s: %v, want %v", what, got, want)
	}
}

// P6.2
func TestIsKind(t *testing.T) {
	for _, kind := range []int{math.MinInt, -1, 0, api.PageMeta, api.PageSpill, api.PageFree, 258, math.MaxInt} {
		same(t, "IsKind", cell.IsKind(kind), false)
	}
	same(t, "IsKind of leaves", cell.IsKind(api.PageLeaf), true)
	same(t, "IsKind of branches", cell.IsKind(api.PageBranch), true)
}

// P6.2
func TestIsSize(t *testing.T) {
	for n := 1; n <= 1<<20; n *= 2 {
		same(t, "IsSize of a power of two", cell.IsSize(n), n >= 512 && n <= 65536)
		same(t, "IsSize of one below", cell.IsSize(n-1), false)
		same(t, "IsSize of one above", cell.IsSize(n+1), false)
		same(t, "IsSize of half as much again", cell.IsSize(n+n/2), false)
		same(t, "IsSize below 0", cell.IsSize(-n), false)
	}
	for _, n := range []int{0, math.MinInt, math.MaxInt, 1 << 32, 1<<32 + 512, 1 << 62} {
		same(t, "IsSize", cell.IsSize(n), false)
	}
}

// The section Cells: an eighth, three sixteenths.
func TestMost(t *testing.T) {
	for page, most := range map[int][2]int{512: {64, 96}, 1024: {128, 192}, 4096: {512, 768}, 65536: {8192, 12288}} {
		same(t, "MostKey", cell.MostKey(page), most[0])
		same(t, "MostValue", cell.MostValue(page), most[1])
	}
}

// The table of cells, row by row, in a page of 512 bytes; where more sizes are tried, plain's tests do.
func TestMayBe(t *testing.T) {
	text := func(n int) []byte { return bytes.Repeat([]byte("x"), n) }
	value := api.Cell{Kind: api.CellValue, Key: text(1), Value: text(1)}
	spill := api.Cell{Kind: api.CellSpill, Key: text(1), Page: 2, Count: 97}
	tree := api.Cell{Kind: api.CellTree, Key: text(1), Page: 2, Count: 1}
	child := api.Cell{Kind: api.CellChild, Key: text(1), Page: 2, Count: 1}
	turned := func(c api.Cell, turn func(c *api.Cell)) api.Cell {
		turn(&c)
		return c
	}
	key := func(c api.Cell, n int) api.Cell { return turned(c, func(c *api.Cell) { c.Key = text(n) }) }
	val := func(c api.Cell, n int) api.Cell { return turned(c, func(c *api.Cell) { c.Value = text(n) }) }
	to := func(c api.Cell, page, count int) api.Cell {
		return turned(c, func(c *api.Cell) { c.Page, c.Count = page, count })
	}
	is := func(want bool, kind int, cells ...api.Cell) {
		t.Helper()
		for _, c := range cells {
			if cell.MayBe(kind, 512, c) != want {
				t.Errorf("MayBe(%d, 512, %+v): %v", kind, c, !want)
			}
		}
	}
	is(true, api.PageLeaf, value, key(value, 64), val(value, 0), val(value, 96), spill, key(spill, 64), to(spill, 65535, 65536), tree, key(tree, 64), to(tree, 0, 0), to(tree, 65535, 1<<30))
	is(true, api.PageBranch, child, key(child, 0), key(child, 64), to(child, 65535, 1<<30))
	is(false, api.PageLeaf, api.Cell{}, key(value, 0), key(value, 65), val(value, 97), to(value, 2, 0), to(value, 0, 1), to(value, 2, 1))
	is(false, api.PageLeaf, key(spill, 0), key(spill, 65), val(spill, 1), to(spill, 1, 97), to(spill, 65536, 97), to(spill, 2, 96), to(spill, 2, 65537), to(spill, 0, 0))
	is(false, api.PageLeaf, key(tree, 0), key(tree, 65), val(tree, 1), to(tree, 0, 1), to(tree, 2, 0), to(tree, 1, 1), to(tree, 65536, 1), to(tree, 2, 1<<30+1), val(to(tree, 0, 0), 1))
	is(false, api.PageLeaf, child, key(child, 0), turned(value, func(c *api.Cell) { c.Kind = 5 }), turned(tree, func(c *api.Cell) { c.Kind = 0 }))
	is(false, api.PageBranch, api.Cell{}, value, spill, tree, to(tree, 0, 0), key(child, 65), val(child, 1), to(child, 1, 1), to(child, 65536, 1), to(child, 2, 0), to(child, 2, 1<<30+1), to(child, 0, 0), to(child, -1, -1))
}
