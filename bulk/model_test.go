package bulk_test

import (
	"bytes"
	"math/rand"
	"slices"
	"testing"

	"espalier/api"
	"espalier/bulk"
	"espalier/tree"
)

// anyKey is a key of a length from 1 to most; often it begins as another one does, or is near it.
func anyKey(r *rand.Rand, most int, others [][]byte) []byte {
	key := make([]byte, 1+r.Intn(most))
	for i := range key {
		key[i] = "\x00ab\xff"[r.Intn(4)]
	}
	if len(others) == 0 || r.Intn(4) == 0 {
		return key
	}
	// As much of the other one as may be, or some of it; then a little that is its own.
	other := others[r.Intn(len(others))]
	shared := len(other)
	if r.Intn(2) == 0 {
		shared = r.Intn(len(other) + 1)
	}
	shared = min(shared, most-1)
	return append(bytes.Clone(other[:shared]), key[:1+r.Intn(min(len(key), most-shared))]...)
}

// anyKeys are so many keys at most, rising.
func anyKeys(r *rand.Rand, most, n int) [][]byte {
	var keys [][]byte
	for range n {
		keys = append(keys, anyKey(r, most, keys))
	}
	slices.SortFunc(keys, bytes.Compare)
	return slices.CompactFunc(keys, bytes.Equal)
}

// anyCell is one of any kind with that key.
func anyCell(r *rand.Rand, size int, key []byte, longest int) api.Cell {
	most := size / 16 * 3
	switch r.Intn(8) {
	case 0:
		return api.Cell{Key: key, Kind: api.CellSpill, Page: 2 + r.Intn(65534), Count: most + 1 + r.Intn(65536-most)}
	case 1:
		return api.Cell{Key: key, Kind: api.CellTree}
	case 2:
		return api.Cell{Key: key, Kind: api.CellTree, Page: 2 + r.Intn(65534), Count: 1 + r.Intn(1<<30)}
	}
	return api.Cell{Key: key, Kind: api.CellValue, Value: bytes.Repeat([]byte{byte(r.Intn(256))}, r.Intn(longest+1))}
}

// anyRow are cells that rise, so many at most.
func anyRow(r *rand.Rand, size, n int) []api.Cell {
	longestKey := 1 + r.Intn(size/8)
	longest := r.Intn(size/16*3 + 1)
	var cells []api.Cell
	for _, key := range anyKeys(r, longestKey, n) {
		cells = append(cells, anyCell(r, size, key, longest))
	}
	return cells
}

func anyFill(r *rand.Rand) int {
	switch r.Intn(4) {
	case 0:
		return 128
	case 1:
		return 256
	}
	return 128 + r.Intn(129)
}

// P14.1 to P14.3: any cells that rise, beside the chapter's words.
func TestAnyCells(t *testing.T) {
	r := chance()
	deepest, most := 0, 0
	for step := range 1200 {
		engine, size := 1+r.Intn(2), 512<<r.Intn(4)
		cells := anyRow(r, size, r.Intn([]int{8, 60, 400}[step%3]))
		fill := anyFill(r)
		s := newShelf(engine, size, 0)
		s.pick = scattered(r)
		root := builds(t, "any cells", s, cells, fill)
		s.acts = nil
		if step%7 == 0 {
			levels, pages := grows(t, "any cells", s, root, cells, fill)
			deepest, most = max(deepest, levels), max(most, pages)
		}
	}
	if deepest < 4 || most < 40 {
		t.Errorf("only %d levels, %d pages", deepest, most)
	}
}

// P14.1: cells of which as many go into a page as can be, in the greatest pages, told by a sum.
func TestManySmallCells(t *testing.T) {
	const n = 20000
	var cells []api.Cell
	for i := range n {
		cells = append(cells, api.Cell{Key: []byte{byte(i >> 16), byte(i >> 8), byte(i)}, Kind: api.CellValue})
	}
	// A plain leaf has 8 + 10 k bytes.
	for _, size := range []int{512, 4096, 65536} {
		for _, fill := range []int{128, 200, 256} {
			// What has the fill has less than fill + 1 256ths.
			each := min(((fill+1)*size/256-1-8)/10, (size-8)/10)
			leaves := (n + each - 1) / each
			s := newShelf(api.Plain, size, 65536)
			_, got, e := bulk.Build(s, slices.Values(cells), fill)
			same(t, "Build", e, api.OK)
			same(t, "how many", got, n)
			pages := s.asked("alloc")
			for i, page := range pages[:leaves] {
				kind, got := s.cells(t, page)
				same(t, "a leaf", kind, api.PageLeaf)
				if i < leaves-2 {
					same(t, "its cells", len(got), each)
				}
			}
			if leaves < len(pages) {
				kind, _ := s.cells(t, pages[leaves])
				same(t, "the page behind the leaves", kind, api.PageBranch)
			}
		}
	}
}

// P14.1: a long row takes no longer for each of its cells than a short one.
func TestALongRow(t *testing.T) {
	const n = 300000
	var cells []api.Cell
	for i := range n {
		cells = append(cells, api.Cell{Key: []byte{byte(i >> 16), byte(i >> 8), byte(i)}, Kind: api.CellValue})
	}
	for _, engine := range engines() {
		r := newShelf(engine, 512, 65534)
		root, got, e := bulk.Build(r, slices.Values(cells), 256)
		same(t, "Build", e, api.OK)
		same(t, "how many", got, n)
		need, e := bulk.Need(engine, 512, 256, cells)
		same(t, "Need", e, api.OK)
		same(t, "Need", need, len(r.held))
		count, _ := tree.Len(r, root)
		same(t, "Len", count, n)
		for _, i := range []int{0, 1, 77777, n - 2, n - 1} {
			c, is, _ := tree.At(r, root, i)
			same(t, "At", is, true)
			sameCells(t, "At", row(c), cells[i:i+1])
		}
	}
}

// P14.2: Need of every beginning of a row.
func TestNeedOfBeginnings(t *testing.T) {
	cells := bounded(60, 40)
	for _, engine := range engines() {
		for n := range cells {
			need, e := bulk.Need(engine, 512, 128, cells[:n])
			same(t, "Need", e, api.OK)
			same(t, "Need", need, len(wanted(engine, 512, 128, cells[:n])))
		}
	}
}
