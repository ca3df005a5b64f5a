package tree_test

import (
	"fmt"
	"testing"

	"espalier/api"
	"espalier/node"
	"espalier/tree"
)

func bench(t *testing.T, engine, page, pages int) *api.Bench {
	t.Helper()
	r := api.NewBench(engine, page, pages)
	if r == nil {
		t.Fatalf("no bench of %d pages of %d bytes", pages, page)
	}
	return r
}

// putOf is a Put of which root and former value are told as the chapter's table does.
func putOf(r api.Room, root int, c api.Cell) string {
	root, old, is, e := tree.Put(r, root, c)
	return told(root, old, is, e)
}

func deleteOf(r api.Room, root int, key string) string {
	root, old, is, e := tree.Delete(r, root, []byte(key))
	return told(root, old, is, e)
}

func getOf(r api.Room, root int, key string) string {
	c, is, e := tree.Get(r, root, []byte(key))
	return told(0, c, is, e)
}

func atOf(r api.Room, root, i int) string {
	c, is, e := tree.At(r, root, i)
	return told(0, c, is, e)
}

func told(root int, c api.Cell, is bool, e api.Errno) string {
	if e != api.OK {
		return fmt.Sprint("error ", int(e))
	}
	text := "none"
	if is {
		text = fmt.Sprintf("%s:%s", c.Key, c.Value)
	}
	return fmt.Sprint(root, " ", text)
}

// The first row: P12.1, P12.4, P12.5.
func TestExamplesOfTheEmptyTree(t *testing.T) {
	r := bench(t, api.Plain, 512, 40)
	same(t, "Get", getOf(r, 0, "a"), "0 none")
	n, e := tree.Len(r, 0)
	same(t, "Len", n, 0)
	same(t, "Len", e, api.OK)
	n, e = tree.Height(r, 0)
	same(t, "Height", n, 0)
	same(t, "Height", e, api.OK)
	l, e := tree.Pages(r, 0)
	same(t, "Pages", len(l), 0)
	same(t, "Pages", e, api.OK)
}

// The rows of the small tree, in their order: P12.1 to P12.3, P12.7, P12.8.
func TestExamplesOfASmallTree(t *testing.T) {
	r := bench(t, api.Plain, 512, 40)
	same(t, "Put(r, 0, a:1)", putOf(r, 0, value("a", "1")), "2 none")
	sameList(t, "Taken", r.Taken(), []int{2})
	same(t, "Put(r, 2, a:2)", putOf(r, 2, value("a", "2")), "2 a:1")
	same(t, "Put(r, 2, b:3)", putOf(r, 2, value("b", "3")), "2 none")
	same(t, "Get(r, 2, a)", getOf(r, 2, "a"), "0 a:2")
	for key, want := range map[string]int{"b": 1, "c": 2} {
		n, e := tree.Rank(r, 2, []byte(key))
		same(t, "Rank of "+key, n, want)
		same(t, "Rank of "+key, e, api.OK)
	}
	same(t, "At(r, 2, 1)", atOf(r, 2, 1), "0 b:3")
	same(t, "At(r, 2, 2)", atOf(r, 2, 2), "0 none")
	same(t, "At(r, 2, -1)", atOf(r, 2, -1), "0 none")
	same(t, "the empty key", putOf(r, 2, value("", "")), "error 31")
	same(t, "a value of 97 bytes", putOf(r, 2, value("c", long(97))), "error 31")
	same(t, "a child", putOf(r, 2, lead("c", 2, 1)), "error 62")
	same(t, "a spilled value of 96 bytes", putOf(r, 2, spill("c", 2, 96)), "error 62")
	same(t, "Delete(r, 2, x)", deleteOf(r, 2, "x"), "2 none")
	same(t, "Delete(r, 2, a)", deleteOf(r, 2, "a"), "2 a:2")
	same(t, "Delete(r, 2, b)", deleteOf(r, 2, "b"), "0 b:3")
	same(t, "pages left", len(r.Taken()), 0)
}

// The row of 300 cells, in three orders: P12.4, P12.6, P12.7.
func TestExampleOfManyCells(t *testing.T) {
	for name, place := range map[string]func(i int) int{"rising": func(i int) int { return i }, "falling": func(i int) int { return 299 - i }, "mixed": func(i int) int { return i * 7 % 300 }} {
		r := bench(t, api.Plain, 512, 400)
		root := 0
		for i := range 300 {
			var e api.Errno
			// A slot of 2 bytes, a kind, two lengths of 2 bytes, and 13 more.
			root, _, _, e = tree.Put(r, root, value(fmt.Sprintf("%03d", place(i)), "0123456789"))
			same(t, name+": Put", e, api.OK)
		}
		n, _ := tree.Len(r, root)
		same(t, name+": Len", n, 300)
		h, _ := tree.Height(r, root)
		same(t, name+": Height is 2 or 3", h == 2 || h == 3, true)
	}
	same(t, "Need(2)", tree.Need(2), 10)
	same(t, "Need(-1)", tree.Need(-1), 4)
}

// The last rows: P12.1, P12.5, P12.7.
func TestExamplesOfErrors(t *testing.T) {
	r := bench(t, api.Plain, 512, 40)
	same(t, "a page that was never taken", getOf(r, 7, "a"), "error 30")
	r.Lay(7, []byte(long(512)))
	same(t, "a page of other bytes", getOf(r, 7, "a"), "error 120")
	b, _ := node.Encode(api.Plain, api.PageBranch, row(lead("", 7, 1)), 512)
	r.Lay(7, b)
	same(t, "a branch that leads to itself", getOf(r, 7, "a"), "error 120")
	_, e := tree.Pages(r, 7)
	same(t, "Pages of it", e, api.ErrTree)
	for height, pages := range []int{4, 7, 10} {
		s := newShelf(api.Plain, 512, 100)
		root := 0
		if height > 0 {
			s.leaf(t, 9, "b", "c")
			root = 9
		}
		if height > 1 {
			s.leaf(t, 8, "e", "f")
			s.branch(t, 7, lead("", 9, 2), lead("d", 8, 2))
			root = 7
		}
		s.spare = pages - 1
		same(t, "one page is wanting", putOf(s, root, value("a", "")), "error 5")
	}
}
