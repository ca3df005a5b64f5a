package packed_test

import (
	"math"
	"slices"
	"testing"

	"espalier/api"
	"espalier/packed"
)

// P7.1: of any cells; kinds of pages that there are not count as leaves.
func TestSize(t *testing.T) {
	big := func(kind, page, count int) api.Cell { return api.Cell{Kind: kind, Page: page, Count: count} }
	for _, x := range []struct {
		what         string
		cells        []api.Cell
		leaf, branch int
	}{
		{"nil", nil, 10, 10},
		{"no cells", row(), 10, 10},
		{"a cell of no kind", row(api.Cell{}), 16, 16},
		{"a value without key", row(value("", "")), 15, 15},
		{"a value", row(value("abc", "defgh")), 10 + 3 + 2 + 2 + 6, 10 + 2 + 5 + 6},
		{"a spilled value", row(spill("abc", 5, 100)), 10 + 3 + 2 + 2 + 2, 10 + 2 + 5 + 2},
		{"a child", row(child("ab", 5, 128)), 10 + 2 + 2 + 2 + 3, 10 + 2 + 4 + 3},
		{"a tree", row(tree("a", 0, 0)), 10 + 1 + 2 + 2 + 2, 10 + 2 + 3 + 2},
		{"a value with Page and Count", row(api.Cell{Kind: 1, Key: []byte("a"), Page: 900, Count: -9}), 10 + 1 + 2 + 2 + 1, 10 + 2 + 3 + 1},
		{"a spilled value with a value", row(api.Cell{Kind: 2, Key: []byte("a"), Value: []byte("xyz")}), 10 + 1 + 2 + 2 + 2, 10 + 2 + 3 + 2},
		{"a child with a value", row(api.Cell{Kind: 3, Value: []byte("xyz")}), 16, 16},
		{"a tree with a value", row(api.Cell{Kind: 4, Value: []byte("xyz")}), 16, 16},
		{"a long key", row(value(long(70000), "")), 10 + 70000 + 2 + 2 + 1, 10 + 2 + 1 + 3 + 70000 + 1},
		{"a long value", row(value("", long(200000))), 10 + 2 + 2 + 3 + 200000, 10 + 2 + 2 + 3 + 200000},
		{"numbers below 0", row(big(2, -1, math.MinInt)), 10 + 2 + 2 + 10 + 10, 10 + 2 + 2 + 10 + 10},
		{"the greatest numbers", row(big(3, math.MaxInt, math.MaxInt)), 10 + 2 + 2 + 9 + 9, 10 + 2 + 2 + 9 + 9},
		{"numbers above 32 bits", row(big(4, 1<<32, 1<<42)), 10 + 2 + 2 + 5 + 7, 10 + 2 + 2 + 5 + 7},
		{"numbers just below 35 and 49 bits", row(big(4, 1<<35-1, 1<<49-1)), 10 + 2 + 2 + 5 + 7, 10 + 2 + 2 + 5 + 7},
		{"numbers of 36 and 50 bits", row(big(4, 1<<35, 1<<49)), 10 + 2 + 2 + 6 + 8, 10 + 2 + 2 + 6 + 8},
		{"two", row(value("ab", "b"), child("ac", 2, 1)), 10 + 1 + 2 + 5 + 2 + 5, 10 + 2 + 2 + 6 + 2 + 4},
		{"falling", row(value("abd", ""), value("abc", ""), value("abb", "")), 10 + 2 + 3*6, 10 + 2 + (2 + 6) + 6 + 6},
		{"alike", row(value("ab", ""), value("ab", ""), value("ab", "")), 10 + 2 + 3*5, 10 + 2 + (2 + 5) + 5 + 5},
		{"the first and the last alike, not the one between", row(value("aa", ""), value("b", ""), value("aa", "")), 10 + 7 + 6 + 7, 10 + 7 + 6 + 7},
		{"one without key at the end", row(value("aa", ""), value("ab", ""), value("", "")), 10 + 7 + 7 + 5, 10 + 7 + 7 + 5},
		{"one without key between", row(value("aa", ""), value("", ""), value("ab", "")), 10 + 7 + 5 + 7, 10 + 7 + 5 + 7},
		{"one without key ahead", row(value("", ""), value("aa", ""), value("ab", "")), 10 + 5 + 7 + 7, 10 + 1 + 5 + 6 + 6},
		{"the first one apart", row(value("b", ""), value("aax", ""), value("aay", "")), 10 + 6 + 8 + 8, 10 + 2 + 6 + 6 + 6},
		{"the first one the others' prefix", row(value("aa", ""), value("aax", ""), value("aay", "")), 10 + 2 + 5 + 6 + 6, 10 + 2 + 7 + 6 + 6},
		{"one the beginning of the next", row(value("a", ""), value("aa", ""), value("aaa", "")), 10 + 1 + 5 + 6 + 7, 10 + 2 + 6 + 5 + 6},
	} {
		same(t, "Size of a branch: "+x.what, packed.Size(api.PageBranch, x.cells), x.branch)
		for _, kind := range []int{math.MinInt, -1, 0, 1, 2, 4, 5, 6, 258, 259, 1<<32 + 3, math.MaxInt} {
			same(t, "Size of a leaf: "+x.what, packed.Size(kind, x.cells), x.leaf)
		}
		same(t, "by the rule: "+x.what, size(api.PageLeaf, x.cells), x.leaf)
		same(t, "by the rule, a branch: "+x.what, size(api.PageBranch, x.cells), x.branch)
	}
}

// P7.1: lengths and numbers at the ends of what so many bytes say.
func TestSizeOfNumbers(t *testing.T) {
	for bits := 0; bits <= 63; bits++ {
		for _, n := range []uint64{1<<bits - 1, 1 << bits, 1<<bits + 1} {
			c := child("", int(n), 0)
			same(t, "Size by a page", packed.Size(api.PageBranch, row(c)), size(api.PageBranch, row(c)))
			c = spill("k", 0, int(n))
			same(t, "Size by a count", packed.Size(api.PageLeaf, row(c)), size(api.PageLeaf, row(c)))
			if n > 1<<22 {
				continue
			}
			l := row(value("", long(int(n))))
			same(t, "Size by a value", packed.Size(api.PageLeaf, l), 14+int(n)+len(uvarint(n)))
			l = row(value("a"+long(int(n)), ""), value("a", ""))
			same(t, "Size by a rest", packed.Size(api.PageLeaf, l), 10+1+2+1+len(uvarint(n))+int(n)+1+5)
			l = row(value(long(int(n)), ""))
			same(t, "Size by a branch's first key", packed.Size(api.PageBranch, l), 10+2+1+len(uvarint(n))+int(n)+1)
			same(t, "Size by a leaf's only key", packed.Size(api.PageLeaf, l), 10+int(n)+2+3)
		}
	}
}

// uvarint is n in groups of seven bits, told once more.
func uvarint(n uint64) []byte {
	b := []byte{byte(n % 128)}
	for n /= 128; n > 0; n /= 128 {
		b[len(b)-1] += 128
		b = append(b, byte(n%128))
	}
	return b
}

// P7.1: kinds of cells that there are not count as those without a value.
func TestSizeOfKindsThatThereAreNot(t *testing.T) {
	for _, kind := range []int{math.MinInt, -1, 0, 5, 6, 255, 256, 257, 1<<32 + 1, math.MaxInt} {
		c := api.Cell{Kind: kind, Key: []byte("key"), Value: []byte("value")}
		same(t, "Size", packed.Size(api.PageLeaf, row(c)), 10+3+2+2+2)
	}
}

// P7.1: any cells in any order, against the rule.
func TestSizeOfAnyCells(t *testing.T) {
	r := chance()
	for range 5000 {
		var cells []api.Cell
		stem := long(r.Intn(200))
		for range r.Intn(8) {
			c := anyCell(r, kinds()[r.Intn(2)], 2048, stem)
			if r.Intn(3) == 0 {
				c = spoilt(r, kinds()[r.Intn(2)], 2048)
			}
			cells = append(cells, c)
		}
		for _, kind := range kinds() {
			want := size(kind, cells)
			same(t, "Size", packed.Size(kind, cells), want)
			// Of a leaf the order of the cells is nothing; of a branch it is all but which is the first.
			mixed := slices.Clone(cells)
			if kind == api.PageBranch && len(mixed) > 0 {
				slices.Reverse(mixed[1:])
			} else {
				slices.Reverse(mixed)
			}
			same(t, "Size in another order", packed.Size(kind, mixed), want)
		}
	}
}

// P7.1: cells add up, also far beyond a page.
func TestSizeOfMany(t *testing.T) {
	var cells []api.Cell
	for i := range 300 {
		cells = append(cells, value("stem"+long(i%200), long(i%7)), child("stem"+long(i%50), i, i*i))
		same(t, "Size", packed.Size(api.PageBranch, cells), size(api.PageBranch, cells))
		same(t, "Size", packed.Size(api.PageLeaf, cells), size(api.PageLeaf, cells))
	}
}
