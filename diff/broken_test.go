package diff_test

import (
	"fmt"
	"testing"

	"espalier/api"
	"espalier/diff"
	"espalier/node"
)

// lay writes a page of cells behind the store's back.
func (r *rig) lay(page, engine, kind int, cells ...api.Cell) {
	r.t.Helper()
	b, e := node.Encode(engine, kind, cells, r.p.Page())
	must(r.t, "Encode", e, r.p.Write(page, b), r.p.Sync())
}

func child(key string, page, count int) api.Cell {
	return api.Cell{Key: []byte(key), Kind: api.CellChild, Page: page, Count: count}
}

// R1: of trees that lead round and round, too deep, or to leaves at unlike depths, each call ends, with the tree's error.
func TestTreesThatAreNone(t *testing.T) {
	for _, engine := range engines() {
		r := newRig(t, engine, 512, 600)
		a := r.make("a").commit()
		b := r.load("a", numbered(900, 40)).make("b").put("b", "k", "1").commit()
		root, _, e := b.v.Grove().Tree("a")
		must(t, "Tree", e)
		small, _, e := b.v.Grove().Tree("b")
		must(t, "Tree", e)
		var others []int
		for _, page := range b.used {
			if page != root && page != small && page != b.v.Meta().Root {
				others = append(others, page)
			}
		}
		wrong := func(what string, want api.Errno) {
			t.Helper()
			for _, x := range [][2]point{{a, b}, {b, a}} {
				_, e := through(t, what, x[0].v, x[1].v)
				same(t, what+": Between", e, want)
				l, n, e := diff.List(x[0].v, x[1].v)
				same(t, what+": List", fmt.Sprint(len(l), n, e), fmt.Sprint(0, 0, want))
			}
		}
		r.lay(root, engine, api.PageBranch, child("", root, 9), child("k", root, 9))
		wrong("it leads to itself", api.ErrTree)
		r.lay(root, engine, api.PageBranch, child("", small, 1), child("k", root, 9))
		wrong("it leads to itself behind a leaf", api.ErrTree)
		for i, page := range others[:50] {
			r.lay(page, engine, api.PageBranch, child("", others[i+1], 9), child("k", others[i+1], 9))
		}
		r.lay(root, engine, api.PageBranch, child("", others[20], 9), child("k", others[20], 9))
		wrong("each of many leads to the next one twice", api.ErrTree)
		r.lay(others[30], engine, api.PageLeaf, numberedCell(1))
		wrong("and these end in a leaf", api.ErrTree)
		for i, page := range others[:50] {
			r.lay(page, engine, api.PageBranch, child("", others[i+1], 9))
		}
		r.lay(root, engine, api.PageBranch, child("", others[0], 9))
		wrong("too deep", api.ErrTree)
		r.lay(others[0], engine, api.PageLeaf, numberedCell(1))
		r.lay(others[1], engine, api.PageBranch, child("", others[2], 9))
		r.lay(others[2], engine, api.PageLeaf, numberedCell(5))
		r.lay(root, engine, api.PageBranch, child("", others[0], 9), child("k3", others[1], 9))
		wrong("a second leaf too deep", api.ErrTree)
		r.lay(root, engine, api.PageBranch, child("", others[1], 9), child("k3", others[0], 9))
		wrong("a first leaf too deep", api.ErrTree)
		r.lay(root, engine, api.PageBranch, child("", others[0], 9), child("k3", 65535, 9))
		wrong("no such page", api.ErrPage)
		r.lay(root, engine, api.PageBranch, child("", 65535, 9), child("k3", others[0], 9))
		wrong("no such page, the first", api.ErrPage)
		r.lay(root, 3-engine, api.PageLeaf, numberedCell(1))
		wrong("of the other engine", api.ErrTree)
		r.lay(root, engine, api.PageBranch)
		wrong("a branch without a cell", api.ErrTree)
		r.lay(root, engine, api.PageLeaf, api.Cell{Key: []byte("k"), Kind: api.CellTree})
		wrong("a tree in a tree", api.ErrTree)
		r.lay(root, engine, api.PageLeaf, api.Cell{Key: []byte("k"), Kind: api.CellSpill, Page: others[0], Count: 500})
		wrong("no chain", api.ErrCorrupt)
		r.lay(b.v.Meta().Root, engine, api.PageLeaf, api.Cell{Key: []byte("a"), Kind: api.CellValue})
		wrong("a value in the catalog", api.ErrTree)
	}
}

func numberedCell(i int) api.Cell {
	return api.Cell{Key: []byte(fmt.Sprint("k", i)), Kind: api.CellValue, Value: []byte("v")}
}

// R1, R4: whatever stands on the device, each call ends, and none panics.
func TestAnyPages(t *testing.T) {
	for _, engine := range engines() {
		r := newRig(t, engine, 512, 600)
		a := r.make("a", "b").load("a", numbered(100, 40)).put("b", "k", long(2000, 'k')).commit()
		b := r.put("a", "k00050", "x").put("b", "k", long(1900, 'k')).delete("a", "k00001").make("c").load("c", numbered(60, 60)).commit()
		l := differs(a.has, b.has)
		image := r.p.Image()
		x := chance(int64(9 + engine))
		errors := map[api.Errno]int{}
		high := b.v.Meta().High
		for range 300 {
			for range 1 + x.Intn(4) {
				at, from := 2+x.Intn(high-2), 2+x.Intn(high-2)
				page := append([]byte(nil), image[from*512:from*512+512]...)
				switch x.Intn(3) {
				case 0:
					page[x.Intn(512)] ^= byte(1 + x.Intn(255))
				case 1:
					copy(page, long(512, byte(x.Intn(256))))
				}
				must(t, "Write", r.p.Write(at, page), r.p.Sync())
			}
			for _, v := range [][2]point{{a, b}, {b, a}} {
				got, e := through(t, "Between", v[0].v, v[1].v)
				list, n, f := diff.List(v[0].v, v[1].v)
				errors[f]++
				same(t, "List's error", e == api.OK || f == e, true)
				if f != api.OK {
					same(t, "beside an error", fmt.Sprint(len(list), n), "0 0")
				} else {
					sameList(t, "List", asTexts(list), asTexts(got))
				}
				diff.Apply(r.s, l)
				diff.Apply(r.s, got)
				diff.Apply(r.s, diff.Turn(got))
				r.s.Rollback()
				must(t, "Begin", r.s.Begin())
			}
			for n := 2; n < high; n++ {
				must(t, "mend", r.p.Write(n, image[n*512:n*512+512]))
			}
			must(t, "Sync", r.p.Sync())
		}
		same(t, fmt.Sprint("errors: ", errors), errors[api.OK] > 10 && errors[api.ErrTree] > 100, true)
		bothWays(t, "mended", a, b)
	}
}
