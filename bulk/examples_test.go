package bulk_test

import (
	"slices"
	"testing"

	"espalier/api"
	"espalier/bulk"
	"espalier/node"
)

// page is what a page of a bench is: its engine, its kind, its cells.
func page(t *testing.T, r *api.Bench, n int) (int, int, []api.Cell) {
	t.Helper()
	b, e := r.Read(n)
	same(t, "Read", e, api.OK)
	engine, kind, cells, e := node.Decode(b)
	same(t, "Decode", e, api.OK)
	return engine, kind, cells
}

// made is a bench of 60 pages, on which these cells were built.
func made(t *testing.T, engine int, cells []api.Cell, fill, root int) *api.Bench {
	t.Helper()
	r := api.NewBench(engine, 512, 60)
	got, n, e := bulk.Build(r, slices.Values(cells), fill)
	same(t, "Build", e, api.OK)
	same(t, "the root", got, root)
	same(t, "how many", n, len(cells))
	return r
}

// hasPage holds a page against its kind and cells.
func hasPage(t *testing.T, r *api.Bench, n, kind int, want []api.Cell) {
	t.Helper()
	engine, k, cells := page(t, r, n)
	same(t, "the page's engine", engine, r.Engine())
	same(t, "the page's kind", k, kind)
	sameCells(t, "the page", cells, want)
}

// What is said ahead of the chapter's table.
func TestExamplesOfFill(t *testing.T) {
	l := values("a", "b", "c", "d", "e")
	same(t, "a cell's bytes", node.Fill(1, api.PageLeaf, l[:1], 512), (8+100)/2)
	same(t, "five", node.Fill(1, api.PageLeaf, l, 512), 254)
	same(t, "two", node.Fill(1, api.PageLeaf, l[:2], 512), 104)
	same(t, "three", node.Fill(1, api.PageLeaf, l[:3], 512), 154)
}

// The chapter's table, row by row.
func TestExampleOfNoneAndOfOne(t *testing.T) {
	for _, engine := range engines() {
		for _, fill := range []int{128, 200, 256} {
			r := made(t, engine, nil, fill, 0)
			sameList(t, "pages of none", r.Taken(), nil)
			l := values("a")
			r = made(t, engine, l, fill, 2)
			sameList(t, "pages of one", r.Taken(), []int{2})
			hasPage(t, r, 2, api.PageLeaf, l)
		}
	}
}

func TestExampleOfFive(t *testing.T) {
	l := values("a", "b", "c", "d", "e")
	r := made(t, api.Plain, l, 256, 2)
	sameList(t, "pages with the fill 256", r.Taken(), []int{2})
	hasPage(t, r, 2, api.PageLeaf, l)

	r = made(t, api.Plain, l, 128, 4)
	sameList(t, "pages with the fill 128", r.Taken(), []int{2, 3, 4})
	hasPage(t, r, 2, api.PageLeaf, l[:2])
	hasPage(t, r, 3, api.PageLeaf, l[2:])
	hasPage(t, r, 4, api.PageBranch, row(lead("", 2, 2), lead("c", 3, 3)))
}

func TestExampleOfSix(t *testing.T) {
	l := values("a", "b", "c", "d", "e", "f")
	r := made(t, api.Plain, l, 256, 4)
	sameList(t, "pages", r.Taken(), []int{2, 3, 4})
	hasPage(t, r, 2, api.PageLeaf, l[:4])
	hasPage(t, r, 3, api.PageLeaf, l[4:])
}

func TestExampleOfABranch(t *testing.T) {
	l := values("a", "b", "c", "d", "ea", "f")
	r := made(t, api.Plain, l, 256, 4)
	hasPage(t, r, 2, api.PageLeaf, l[:4])
	hasPage(t, r, 3, api.PageLeaf, l[4:])
	hasPage(t, r, 4, api.PageBranch, row(lead("", 2, 4), lead("e", 3, 2)))
}

func TestExamplesOfRefusals(t *testing.T) {
	for _, x := range []struct {
		what  string
		cells []api.Cell
		fill  int
		want  api.Errno
	}{
		{"the fill 127", nil, 127, api.ErrArg},
		{"the fill 257", nil, 257, api.ErrArg},
		{"b and a", values("b", "a"), 256, api.ErrSorted},
		{"an empty key", values(""), 256, api.ErrCell},
	} {
		r := api.NewBench(api.Plain, 512, 60)
		root, n, e := bulk.Build(r, slices.Values(x.cells), x.fill)
		same(t, x.what, e, x.want)
		same(t, x.what+": the root", root, 0)
		same(t, x.what+": how many", n, 0)
		sameList(t, x.what+": pages", r.Taken(), nil)
	}
}

func TestExamplesOfNeed(t *testing.T) {
	for _, x := range []struct {
		engine, page int
		want         api.Errno
	}{{3, 512, api.ErrEngine}, {1, 512, api.OK}, {1, 500, api.ErrArg}} {
		n, e := bulk.Need(x.engine, x.page, 200, nil)
		same(t, "Need", e, x.want)
		same(t, "Need", n, 0)
	}
}
