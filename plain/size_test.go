package plain_test

import (
	"math"
	"testing"

	"espalier/api"
	"espalier/plain"
)

// P6.1: of any cells, whatever the kind of the page.
func TestSize(t *testing.T) {
	for _, x := range []struct {
		what  string
		cells []api.Cell
		want  int
	}{
		{"nil", nil, 8},
		{"no cells", row(), 8},
		{"a cell of no kind", row(api.Cell{}), 21},
		{"a value without key", row(value("", "")), 15},
		{"a value", row(value("abc", "defgh")), 23},
		{"a spilled value", row(spill("abc", 5, 100)), 24},
		{"a child", row(child("ab", 5, 100)), 23},
		{"a tree", row(tree("a", 0, 0)), 22},
		{"a value with Page and Count", row(api.Cell{Kind: 1, Key: []byte("a"), Page: 9, Count: -9}), 16},
		{"a spilled value with a value", row(api.Cell{Kind: 2, Key: []byte("a"), Value: []byte("xyz")}), 22},
		{"a child with a value", row(api.Cell{Kind: 3, Value: []byte("xyz")}), 21},
		{"a tree with a value", row(api.Cell{Kind: 4, Value: []byte("xyz")}), 21},
		{"a long key", row(value(long(70000), "")), 70015},
		{"a long value", row(value("", long(200000))), 200015},
		{"numbers that may not be", row(spill("", math.MinInt, math.MaxInt)), 21},
		{"two", row(value("a", "b"), child("a", 2, 1)), 8 + 9 + 14},
		{"falling and alike", row(value("b", ""), value("a", ""), value("a", "")), 8 + 3*8},
	} {
		for _, kind := range []int{math.MinInt, -1, 0, 1, 2, 3, 4, 5, 6, math.MaxInt} {
			same(t, "Size of "+x.what, plain.Size(kind, x.cells), x.want)
		}
	}
}

// P6.1: kinds of cells that there are not count as those without a value.
func TestSizeOfKindsThatThereAreNot(t *testing.T) {
	for _, kind := range []int{math.MinInt, -1, 0, 5, 6, 255, 256, 257, 1<<32 + 1, math.MaxInt} {
		c := api.Cell{Kind: kind, Key: []byte("key"), Value: []byte("value")}
		same(t, "Size", plain.Size(api.PageLeaf, row(c)), 8+16)
	}
}

// P6.1: cells add up, also far beyond a page.
func TestSizeOfMany(t *testing.T) {
	var cells []api.Cell
	want := 8
	for i := range 3000 {
		cells = append(cells, value(long(i%100), long(i%7)), child(long(i%50), 0, 0))
		want += 7 + i%100 + i%7 + 13 + i%50
		same(t, "Size", plain.Size(api.PageBranch, cells), want)
	}
}
