package walk_test

import (
	"testing"

	"espalier/api"
	"espalier/node"
	"espalier/walk"
)

func same[T comparable](t *testing.T, what string, got, want T) {
	t.Helper()
	if got != want {
		t.Errorf("%s: %v, want %v", what, got, want)
	}
}

func page(t *testing.T, engine, kind, size int, cells ...api.Cell) []byte {
	t.Helper()
	b, e := node.Encode(engine, kind, cells, size)
	same(t, "Encode", e, api.OK)
	return b
}

func leads(keys ...string) []api.Cell {
	var l []api.Cell
	for i, k := range keys {
		l = append(l, api.Cell{Kind: api.CellChild, Key: []byte(k), Page: 10 + i, Count: 1})
	}
	return l
}

func values(keys ...string) []api.Cell {
	var l []api.Cell
	for _, k := range keys {
		l = append(l, api.Cell{Kind: api.CellValue, Key: []byte(k)})
	}
	return l
}

// A page is read as chapter 12 says; a leaf may have no cell.
func TestRead(t *testing.T) {
	for _, engine := range []int{api.Plain, api.Packed} {
		r := api.NewBench(engine, 512, 40)
		good := page(t, engine, api.PageLeaf, 512, values("k")...)
		for _, x := range []struct {
			what string
			b    []byte
			want api.Errno
		}{
			{"a leaf", good, api.OK},
			{"a leaf without a cell", page(t, engine, api.PageLeaf, 512), api.OK},
			{"a branch", page(t, engine, api.PageBranch, 512, leads("")...), api.OK},
			{"a branch without a cell", page(t, engine, api.PageBranch, 512), api.ErrTree},
			{"of the other engine", page(t, 3-engine, api.PageLeaf, 512, values("k")...), api.ErrTree},
			{"of another size", page(t, engine, api.PageLeaf, 1024, values("k")...), api.ErrTree},
			{"no byte", nil, api.ErrTree},
			{"zeros", make([]byte, 512), api.ErrTree},
			{"a byte less", good[:511], api.ErrTree},
		} {
			r.Lay(7, x.b)
			n, e := walk.Read(r, 7)
			same(t, x.what, e, x.want)
			same(t, x.what+": nil", n == nil, x.want != api.OK)
		}
		_, e := walk.Read(r, 8)
		same(t, "a page that is not there", e, api.ErrPage)
	}
}

// The way for a key goes on by the last cell whose key is not behind it, or by the first.
func TestToward(t *testing.T) {
	for _, engine := range []int{api.Plain, api.Packed} {
		for _, x := range []struct {
			kind  int
			cells []api.Cell
			want  map[string]int
		}{
			{api.PageBranch, leads("", "c", "f"), map[string]int{"": 0, "a": 0, "b\xff": 0, "c": 1, "c\x00": 1, "e": 1, "f": 2, "z": 2}},
			{api.PageBranch, leads("b", "c"), map[string]int{"": 0, "a": 0, "b": 0, "bb": 0, "c": 1, "d": 1}},
			{api.PageLeaf, values("b", "d"), map[string]int{"": 0, "a": 0, "b": 0, "c": 1, "d": 1, "d\x00": 2}},
			{api.PageLeaf, nil, map[string]int{"": 0, "a": 0}},
		} {
			n, e := node.Open(page(t, engine, x.kind, 512, x.cells...))
			same(t, "Open", e, api.OK)
			for key, want := range x.want {
				same(t, "toward "+key, walk.Toward(n, []byte(key)), want)
			}
		}
	}
}

func TestChild(t *testing.T) {
	for _, engine := range []int{api.Plain, api.Packed} {
		n, _ := node.Open(page(t, engine, api.PageBranch, 512, leads("", "c")...))
		for at, want := range map[int]int{-1: 0, 0: 10, 1: 11, 2: 0} {
			same(t, "of a branch", walk.Child(n, at), want)
		}
		// A leaf's cells may name pages, which are no children.
		n, _ = node.Open(page(t, engine, api.PageLeaf, 512, api.Cell{Kind: api.CellTree, Key: []byte("k"), Page: 9, Count: 1}))
		same(t, "of a leaf", walk.Child(n, 0), 0)
	}
}
