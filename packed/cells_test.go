package packed_test

import (
	"math"
	"strconv"
	"testing"

	"espalier/api"
	"espalier/packed"
)

// turned is the cell with something done to it.
func turned(c api.Cell, turn func(c *api.Cell)) api.Cell {
	turn(&c)
	return c
}

func page(n int) func(c *api.Cell) { return func(c *api.Cell) { c.Page = n } }

func count(n int) func(c *api.Cell) { return func(c *api.Cell) { c.Count = n } }

func key(n int) func(c *api.Cell) { return func(c *api.Cell) { c.Key = []byte(long(n)) } }

func val(n int) func(c *api.Cell) { return func(c *api.Cell) { c.Value = []byte(long(n)) } }

func both(page, count int) func(c *api.Cell) {
	return func(c *api.Cell) { c.Page, c.Count = page, count }
}

// may holds one cell alone against what Encode, Decode, Insert and Set should say of it.
func may(t *testing.T, what string, kind, page int, c api.Cell, is bool) {
	t.Helper()
	old := value("k", "")
	if kind == api.PageBranch {
		old = child("k", 2, 1)
	}
	p, l := made(t, kind, page), anew(kind, page, nil)
	q, m := filled(t, kind, page, old)
	want := api.OK
	if is {
		takes(t, what, kind, row(c), page)
	} else {
		want = api.ErrCell
		refuses(t, what, kind, row(c), page, want)
	}
	same(t, what+": Insert", p.Insert(0, c), want)
	same(t, what+": Set", q.Set(0, c), want)
	if is {
		l.insert(0, c)
		m.set(0, c)
	}
	stands(t, what+": Insert", p, l)
	stands(t, what+": Set", q, m)
}

// P7.2: the table of cells: the least and the greatest of each field, one below, one above.
func TestEnds(t *testing.T) {
	for _, size := range sizes() {
		most, mostKey := size/16*3, size/8
		v, s, tr, ch := value("k", "v"), spill("k", 2, most+1), tree("k", 2, 1), child("k", 2, 1)
		type end struct {
			what string
			turn func(c *api.Cell)
			is   bool
		}
		leafKeys := []end{{"no key", key(0), false}, {"a key of 1", key(1), true}, {"MostKey", key(mostKey), true}, {"MostKey + 1", key(mostKey + 1), false}}
		pages := []end{
			{"page 1", page(1), false}, {"page 2", page(2), true}, {"page 3", page(3), true}, {"page 65535", page(65535), true}, {"page 65536", page(65536), false}, {"page -1", page(-1), false},
			{"page 2^32 + 2", page(1<<32 + 2), false}, {"the least page", page(math.MinInt), false}, {"the greatest page", page(math.MaxInt), false},
		}
		counts := []end{
			{"count -1", count(-1), false}, {"count 1", count(1), true}, {"count 2", count(2), true}, {"count MaxLimit", count(1 << 30), true}, {"count MaxLimit + 1", count(1<<30 + 1), false},
			{"count 2^32 + 1", count(1<<32 + 1), false}, {"the least count", count(math.MinInt), false}, {"the greatest count", count(math.MaxInt), false},
		}
		noValue := []end{{"a value of 1", val(1), false}, {"a long value", val(most), false}, {"an empty value", val(0), true}}
		for _, x := range []struct {
			what string
			kind int
			cell api.Cell
			ends [][]end
		}{
			{"value", api.PageLeaf, v, [][]end{leafKeys, {
				{"no value", val(0), true}, {"a value of 1", val(1), true}, {"MostValue", val(most), true}, {"MostValue + 1", val(most + 1), false},
				{"page 2", page(2), false}, {"page -1", page(-1), false}, {"count 1", count(1), false}, {"count -1", count(-1), false}, {"both", both(2, 1), false}, {"neither", both(0, 0), true},
			}}},
			{"spill", api.PageLeaf, s, [][]end{leafKeys, pages, noValue, {
				{"page 0", page(0), false}, {"count 0", count(0), false}, {"count 1", count(1), false}, {"MostValue", count(most), false}, {"MostValue + 1", count(most + 1), true}, {"MaxValue", count(65536), true}, {"MaxValue + 1", count(65537), false},
				{"count -1", count(-1), false}, {"count MaxLimit", count(1 << 30), false}, {"count 2^32 + MaxValue", count(1<<32 + 65536), false}, {"neither", both(0, 0), false}, {"the ends", both(65535, 65536), true},
			}}},
			{"tree", api.PageLeaf, tr, [][]end{leafKeys, pages, counts, noValue, {
				{"neither", both(0, 0), true}, {"page 0", page(0), false}, {"count 0", count(0), false}, {"page 0, count MaxLimit", both(0, 1<<30), false}, {"the ends", both(65535, 1<<30), true}, {"page 1, count 0", both(1, 0), false}, {"page -1, count 0", both(-1, 0), false}, {"page 0, count -1", both(0, -1), false},
			}}},
			{"child", api.PageBranch, ch, [][]end{leafKeys[1:], pages, counts, noValue, {
				{"an empty key", key(0), true}, {"page 0", page(0), false}, {"count 0", count(0), false}, {"neither", both(0, 0), false}, {"the ends", both(65535, 1<<30), true},
			}}},
		} {
			for _, l := range x.ends {
				for _, e := range l {
					may(t, strconv.Itoa(size)+" "+x.what+": "+e.what, x.kind, size, turned(x.cell, e.turn), e.is)
				}
			}
		}
	}
}

// P7.2: which kinds of cells may be in which page.
func TestKindsOfCells(t *testing.T) {
	for kind, c := range map[int][]api.Cell{
		api.PageLeaf:   row(child("k", 2, 1), child("", 2, 1)),
		api.PageBranch: row(value("k", "v"), value("", ""), value("k", ""), spill("k", 2, 97), tree("k", 2, 1), tree("k", 0, 0)),
	} {
		for _, c := range c {
			may(t, "a cell of the other kind of page", kind, 512, c, false)
		}
	}
	for _, of := range []int{math.MinInt, -255, -1, 0, 5, 6, 7, 255, 256, 257, 258, 259, 260, 1<<32 + 1, 1<<32 + 3, math.MaxInt} {
		for _, kind := range kinds() {
			for _, c := range row(value("k", "v"), value("k", ""), spill("k", 2, 97), child("k", 2, 1), child("", 2, 1), tree("k", 0, 0), api.Cell{}) {
				c.Kind = of
				may(t, "a cell of kind "+strconv.Itoa(of), kind, 512, c, false)
			}
		}
	}
}

// P7.2: all fields at all their ends, together, against the table.
func TestAllFieldsTogether(t *testing.T) {
	for _, size := range []int{512, 4096, 65536} {
		most := size / 16 * 3
		for _, kind := range kinds() {
			for _, of := range []int{0, 1, 2, 3, 4, 5} {
				for _, keyLen := range []int{0, 1, size / 8, size/8 + 1} {
					for _, valLen := range []int{0, 1, most, most + 1} {
						for _, p := range []int{-1, 0, 1, 2, 65535, 65536} {
							for _, n := range []int{-1, 0, 1, most, most + 1, 65536, 65537, 1 << 30, 1<<30 + 1} {
								c := api.Cell{Kind: of, Key: []byte(long(keyLen)), Value: []byte(long(valLen)), Page: p, Count: n}
								together(t, kind, size, c)
							}
						}
					}
				}
			}
		}
	}
}

func together(t *testing.T, kind, size int, c api.Cell) {
	t.Helper()
	b, e := packed.Encode(kind, row(c), size)
	want := wanted(kind, row(c), size)
	if e != want || e != api.OK && len(b) != 0 {
		t.Errorf("page %d of %d, cell of kind %d, key %d, value %d, page %d, count %d: %d, want %d", kind, size, c.Kind, len(c.Key), len(c.Value), c.Page, c.Count, e, want)
	}
}

// P7.2: an empty key may be a branch's first one, and no other.
func TestEmptyKeys(t *testing.T) {
	takes(t, "first", api.PageBranch, row(child("", 2, 1), child("a", 3, 1)), 512)
	takes(t, "nowhere", api.PageBranch, row(child("a", 2, 1), child("b", 3, 1)), 512)
	refuses(t, "second", api.PageBranch, row(child("a", 2, 1), child("", 3, 1)), 512, api.ErrOrder)
	refuses(t, "both", api.PageBranch, row(child("", 2, 1), child("", 3, 1)), 512, api.ErrOrder)
	refuses(t, "in a leaf", api.PageLeaf, row(value("", ""), value("a", "")), 512, api.ErrCell)
	refuses(t, "in a leaf, second", api.PageLeaf, row(value("a", ""), value("", "")), 512, api.ErrCell)
}

// P7.11: any three cells that may be in a page, with rising keys, fit into one.
func TestThreeFit(t *testing.T) {
	for _, size := range sizes() {
		key := func(i int) string { return string([]byte{byte('a' + i)}) + long(size/8-1) }
		of := []func(i int) api.Cell{
			func(i int) api.Cell { return value(key(i), long(size/16*3)) },
			func(i int) api.Cell { return spill(key(i), 65535, 65536) },
			func(i int) api.Cell { return tree(key(i), 65535, 1<<30) },
		}
		for _, a := range of {
			for _, b := range of {
				for _, c := range of {
					fit(t, api.PageLeaf, size, row(a(0), b(1), c(2)))
				}
			}
		}
		fit(t, api.PageBranch, size, row(child(key(0), 65535, 1<<30), child(key(1), 65535, 1<<30), child(key(2), 65535, 1<<30)))
		r := chance()
		for range 50 {
			kind := kinds()[r.Intn(2)]
			var cells []api.Cell
			for i := range 3 {
				c := anyCell(r, kind, size, "")
				c.Key = append([]byte{byte('a' + i)}, c.Key[:min(len(c.Key), size/8-1)]...)
				cells = append(cells, c)
			}
			fit(t, kind, size, cells)
		}
	}
}

func fit(t *testing.T, kind, size int, three []api.Cell) {
	t.Helper()
	takes(t, "three", kind, three, size)
	for _, places := range [][3]int{{0, 1, 2}, {0, 2, 1}, {1, 0, 2}, {1, 2, 0}, {2, 0, 1}, {2, 1, 0}} {
		p, l := made(t, kind, size), anew(kind, size, nil)
		for _, n := range places {
			i, _ := p.Find(three[n].Key)
			same(t, "Insert of one of three", p.Insert(i, three[n]), api.OK)
			same(t, "Insert into the list", l.insert(i, three[n]), api.OK)
		}
		stands(t, "three", p, l)
		sameCells(t, "three", l.cells, three)
	}
}
