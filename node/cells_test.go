package node_test

import (
	"math"
	"slices"
	"sort"
	"testing"

	"espalier/api"
	"espalier/node"
)

// many are cells with the shortest keys, as many as fit.
func many(engine, kind, page int) []api.Cell {
	all := rowOf(kind, 20000)
	n := sort.Search(len(all), func(n int) bool { return size(engine, kind, all[:n+1]) > page })
	return all[:n]
}

// full are some great cells and a last one that is as long as it takes that all of them take page + more bytes.
func full(engine, kind, page, more int) []api.Cell {
	cellOf := func(i, keyMore, n int) api.Cell {
		key := string([]byte{byte(8 * i)}) + long(keyMore)
		if kind == api.PageBranch {
			return child(key+long(n), 300, 300)
		}
		return value(key, long(n))
	}
	var cells []api.Cell
	for size(engine, kind, append(cells, cellOf(len(cells), page/32, page/32)))+20 <= page {
		cells = append(cells, cellOf(len(cells), page/32, page/32))
	}
	// A length that needs a byte more may jump over what is wanted: then the first cell is made longer.
	for pad := range 3 {
		cells[0] = cellOf(0, page/32, page/32+pad)
		for n := range page / 8 {
			if l := append(cells[:len(cells):len(cells)], cellOf(31, 0, n)); size(engine, kind, l) == page+more {
				return l
			}
		}
	}
	return nil
}

// P8.3: all cells, in order.
func TestCells(t *testing.T) {
	same(t, "of nil", len(node.Cells(nil)), 0)
	var none node.Node
	same(t, "of no node", len(node.Cells(none)), 0)
	for _, engine := range engines() {
		for _, kind := range kinds() {
			for _, page := range sizes() {
				what := named("Cells", engine, kind, page)
				same(t, what+" of an empty one", len(node.Cells(made(t, engine, kind, page))), 0)
				for _, cells := range [][]api.Cell{rowOf(kind, 1), rowOf(kind, 2), someCells(kind, page), many(engine, kind, page)} {
					sameCells(t, what, node.Cells(opened(t, engine, kind, page, cells...)), cells)
				}
			}
		}
	}
}

// P8.3: put in any order, they are told in their own.
func TestCellsPutInAnyOrder(t *testing.T) {
	for _, engine := range engines() {
		for _, kind := range kinds() {
			cells := rowOf(kind, 20)
			n := made(t, engine, kind, 512)
			for _, i := range chance().Perm(20) {
				at, there := n.Find(cells[i].Key)
				same(t, "Find", there, false)
				same(t, "Insert", n.Insert(at, cells[i]), api.OK)
			}
			sameCells(t, named("Cells", engine, kind), node.Cells(n), cells)
			same(t, "Remove", n.Remove(7), api.OK)
			sameCells(t, named("Cells behind Remove", engine, kind), node.Cells(n), slices.Delete(slices.Clone(cells), 7, 8))
		}
	}
}

// P8.2, P8.4: Fits just where Encode answers OK: a page that is just full, and one byte more.
func TestJustFull(t *testing.T) {
	for _, engine := range engines() {
		for _, kind := range kinds() {
			for _, page := range sizes() {
				for more := -1; more <= 1; more++ {
					what := named("just full", engine, kind, page, more)
					cells := full(engine, kind, page, more)
					if len(cells) == 0 {
						t.Fatalf("%s: no such cells", what)
					}
					same(t, what+": Fits", node.Fits(engine, kind, cells, page), more <= 0)
					same(t, what+": Fill", node.Fill(engine, kind, cells, page), (page+more)*256/page)
					encodes(t, what, engine, kind, cells, page)
				}
				cells := many(engine, kind, page)
				encodes(t, named("as many as fit", engine, kind, page), engine, kind, cells, page)
				encodes(t, named("one more", engine, kind, page), engine, kind, rowOf(kind, len(cells)+1), page)
			}
		}
	}
}

// P8.4: Fits of any cells, in order or not, that may be or not.
func TestFitsOfAnyCells(t *testing.T) {
	r := chance()
	for step := range 4000 {
		engine, kind, page := 1+r.Intn(2), 2+r.Intn(2), 512<<r.Intn(3)
		cells := anyRow(r, kind, page, r.Intn(30))
		if r.Intn(3) == 0 {
			spoil(r, kind, page, cells)
		}
		encodes(t, named("any cells", step, engine, kind, page), engine, kind, cells, page)
	}
}

// oddCells are ones that may be nowhere.
func oddCells() []api.Cell {
	return row(
		api.Cell{}, value("", ""), value("b", ""), value("a", long(70000)), value(long(70000), "x"), child("", -1, -1), tree("k", math.MinInt, math.MaxInt), spill("k", 1<<40, 1),
		api.Cell{Kind: -7, Key: []byte("kk"), Value: []byte("vv"), Page: 9}, api.Cell{Kind: 1 << 40, Key: []byte("kl")}, api.Cell{Kind: api.CellChild, Value: []byte(long(300)), Page: 5, Count: 7},
	)
}

// P8.4: Fill of no cells, of cells that may not be, of more than fit, of kinds that there are not.
func TestFill(t *testing.T) {
	odd := oddCells()
	for _, engine := range engines() {
		for _, kind := range someKinds() {
			for _, page := range sizes() {
				rows := [][]api.Cell{nil, {}, odd, odd[:2], odd[1:3], rowOf(api.PageLeaf, 9), rowOf(api.PageBranch, 9), rowOf(api.PageLeaf, 3000), someCells(api.PageLeaf, page), someCells(api.PageBranch, page)}
				for i, cells := range rows {
					want := size(engine, kind, cells) * 256 / page
					same(t, named("Fill", engine, kind, page, i), node.Fill(engine, kind, cells, page), want)
				}
			}
		}
	}
}

// P8.4: Fill is rounded down, just below and at a whole 256th.
func TestFillIsRoundedDown(t *testing.T) {
	for _, page := range sizes() {
		step := page / 256
		for n := range 3 * step {
			cells := row(value("k", long(n)))
			taken := 8 + 7 + 1 + n
			same(t, named("Fill", page, n), node.Fill(api.Plain, api.PageLeaf, cells, page), taken/step)
		}
	}
}

// P8.4: Fill of engines and sizes that there are not, whatever else.
func TestFillOfWrongNumbers(t *testing.T) {
	for _, engine := range someEngines() {
		for _, page := range someSizes() {
			if isEngine(engine) && isSize(page) {
				continue
			}
			for _, kind := range someKinds() {
				same(t, named("Fill", engine, kind, page), node.Fill(engine, kind, rowOf(api.PageLeaf, 9), page), 0)
				same(t, named("Fits", engine, kind, page), node.Fits(engine, kind, rowOf(api.PageLeaf, 9), page), false)
			}
		}
	}
}

// P8.6: of every size, and 0 of what is none.
func TestMost(t *testing.T) {
	for i, page := range sizes() {
		same(t, named("MostKey", page), node.MostKey(page), []int{64, 128, 256, 512, 1024, 2048, 4096, 8192}[i])
		same(t, named("MostValue", page), node.MostValue(page), []int{96, 192, 384, 768, 1536, 3072, 6144, 12288}[i])
	}
	for _, page := range someSizes() {
		if !isSize(page) {
			same(t, named("MostKey", page), node.MostKey(page), 0)
			same(t, named("MostValue", page), node.MostValue(page), 0)
		}
	}
	for page := -10; page < 70000; page++ {
		if node.MostKey(page) > 0 != isSize(page) || node.MostValue(page) > 0 != isSize(page) {
			t.Errorf("of %d: %d, %d", page, node.MostKey(page), node.MostValue(page))
		}
	}
}

// P8.6: what they tell is what pages of either engine take.
func TestMostIsWhatPagesTake(t *testing.T) {
	for _, engine := range engines() {
		for _, page := range sizes() {
			key, val := node.MostKey(page), node.MostValue(page)
			for _, x := range []struct {
				c    api.Cell
				kind int
				is   bool
			}{
				{value(long(key), long(val)), api.PageLeaf, true}, {value(long(key+1), ""), api.PageLeaf, false}, {value("k", long(val+1)), api.PageLeaf, false},
				{spill("k", 2, val+1), api.PageLeaf, true}, {spill("k", 2, val), api.PageLeaf, false}, {child(long(key), 2, 1), api.PageBranch, true}, {child(long(key+1), 2, 1), api.PageBranch, false},
			} {
				want := api.OK
				if !x.is {
					want = api.ErrCell
				}
				same(t, named("Fits", engine, page), node.Fits(engine, x.kind, row(x.c), page), x.is)
				same(t, named("Insert", engine, page), made(t, engine, x.kind, page).Insert(0, x.c), want)
			}
		}
	}
}
