package check_test

import (
	"fmt"
	"slices"
	"testing"

	"espalier/api"
	"espalier/check"
	"espalier/meta"
	"espalier/node"
)

// R1, at the limit: as many pages as a device has, each a branch with one child, the next page; the last one is a leaf.
func TestDeepest(t *testing.T) {
	both(t, func(t *testing.T, engine int) {
		const pages = api.MaxPages
		image := make([]byte, 512*pages)
		m, e := meta.Encode(api.Meta{Engine: engine, Page: 512, Txn: 1, Root: 2, Count: 1, High: pages})
		stop(t, "Encode", e)
		copy(image[512:], m)
		for n := 2; n < pages; n++ {
			kind, c := api.PageBranch, child("", n+1, 1)
			switch n {
			case 2:
				kind, c = api.PageLeaf, tree("a", 3, 1)
			case pages - 1:
				kind, c = api.PageLeaf, value("k", "v")
			}
			b, e := node.Encode(engine, kind, []api.Cell{c}, 512)
			stop(t, "Encode", e)
			copy(image[512*n:], b)
		}
		l, e := check.Look(image, 512)
		stop(t, "Look", e)
		same(t, "faults", len(l), pages-3)
		for i, f := range l {
			if f != (api.Fault{What: api.BadThin, Page: i + 3}) {
				t.Fatalf("fault %d: %v", i, f)
			}
		}
		_, _, _, e = check.Reach(image, 512)
		same(t, "Reach", e, api.ErrLost)
		cells, e := check.Salvage(image, 512)
		same(t, "Salvage", fmt.Sprint(len(cells), e), "2 0")
	})
}

// A device of the greatest pages, and of the most bytes, with a list that has all that is in no tree.
func TestGreatestPages(t *testing.T) {
	both(t, func(t *testing.T, engine int) {
		b := small(engine)
		b.size, b.meta.Page = api.MaxPage, api.MaxPage
		b.pages = api.MaxBytes / api.MaxPage
		b.meta.High, b.meta.Free = b.pages, 4
		var cells []api.Cell
		for i := range 2000 {
			cells = append(cells, value(fmt.Sprintf("%05d", i), "v"))
		}
		cells[5] = long("00005", 5, 65536)
		b.with(3, leaf(cells...)).with(5, held(6, 65520)).with(6, held(0, 16))
		b.cell(2, 0).Count = 2000
		var free []int
		for n := 7; n < b.pages; n++ {
			free = append(free, n)
		}
		b.with(4, list(0, free...))
		b.meta.Listed = len(free)
		looks(t, "the greatest pages", b, "")
		used, listed, told, e := check.Reach(imageOf(t, b), b.size)
		same(t, "Reach", fmt.Sprint(used, listed, slices.Equal(told, free), e), "[2 3 5 6] [4] true 0")
		_, trees, e := check.Trees(imageOf(t, b), b.size)
		same(t, "Trees", fmt.Sprint(len(trees), len(trees[0]), len(trees[0][5].Value), e), "1 2000 65536 0")
	})
}

// A page may have faults at all of its cells.
func TestManyFaults(t *testing.T) {
	both(t, func(t *testing.T, engine int) {
		b := small(engine)
		b.size, b.meta.Page = 4096, 4096
		var cells []api.Cell
		want := ""
		for i := range 200 {
			cells = append(cells, child(fmt.Sprintf("%03d", i), 4+i, 1))
			if i == 0 {
				want += "BadOrder 3 0, "
			}
			want += fmt.Sprint("BadRange 3 ", i, ", ")
		}
		b.with(3, branch(cells...))
		looks(t, "many faults", b, want+"BadCount 2 0")
		b.cell(2, 0).Count = 200
		looks(t, "many faults", b, want[:len(want)-2])
	})
}

// MaxTrees trees in a catalog of several pages.
func TestMostTrees(t *testing.T) {
	both(t, func(t *testing.T, engine int) {
		b := small(engine)
		b.pages, b.meta.High = 400, 2
		var up []api.Cell
		for at := 0; at < 256; at += 8 {
			var cells []api.Cell
			for i := at; i < at+8; i++ {
				b.with(b.meta.High, leaf(values("k")...))
				cells = append(cells, tree(fmt.Sprintf("t%03d", i), b.meta.High, 1))
				b.meta.High++
			}
			b.with(b.meta.High, leaf(cells...))
			key := string(cells[0].Key)
			if at == 0 {
				key = ""
			}
			up = append(up, child(key, b.meta.High, 8))
			b.meta.High++
		}
		b.with(b.meta.High, branch(up[:16]...)).with(b.meta.High+1, branch(up[16:]...)).
			with(b.meta.High+2, branch(child("", b.meta.High, 128), child("t128", b.meta.High+1, 128)))
		b.cell(b.meta.High+1, 0).Key = nil
		b.meta.Root, b.meta.Count = b.meta.High+2, 256
		b.meta.High += 3
		looks(t, "256 trees", b, "")
		names, trees, e := check.Trees(imageOf(t, b), 512)
		same(t, "Trees", fmt.Sprintf("%d %d %s %d", len(names), len(trees), names[255], e), "256 256 t255 0")
		b.meta.Count = 255
		looks(t, "256 trees, and 255 told", b, "BadCount 0 0")
	})
}
