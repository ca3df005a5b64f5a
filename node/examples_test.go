package node_test

import (
	"testing"

	"espalier/api"
	"espalier/node"
)

// The chapter's table, row by row: P8.1.
func TestExamplesOfNew(t *testing.T) {
	for _, x := range []struct {
		engine, kind, page int
		want               api.Errno
	}{{3, api.PageLeaf, 512, api.ErrEngine}, {1, api.PageMeta, 512, api.ErrArg}, {2, api.PageLeaf, 513, api.ErrArg}} {
		n, e := node.New(x.engine, x.kind, x.page)
		same(t, "New", e, x.want)
		same(t, "New's node is nil", n == nil, true)
	}
}

func TestExamplesOfWork(t *testing.T) {
	n := made(t, 1, api.PageLeaf, 512)
	same(t, "Insert(0, b)", n.Insert(0, value("b", "x")), api.OK)
	same(t, "Insert(0, a)", n.Insert(0, value("a", "y")), api.OK)
	i, there := n.Find([]byte("b"))
	same(t, "Find's place", i, 1)
	same(t, "Find", there, true)
	same(t, "Used", n.Used(), 26)
	m, e := node.Open(n.Bytes())
	same(t, "Open", e, api.OK)
	sameCells(t, "Open", node.Cells(m), row(value("a", "y"), value("b", "x")))
	corrupt(t, "Open of nothing", nil)
	corrupt(t, "Open of 02 03 and more", append([]byte{2, 3}, n.Bytes()[2:]...))
}

// P8.3.
func TestExampleOfCells(t *testing.T) {
	same(t, "Cells of nil", len(node.Cells(nil)), 0)
}

// P8.6.
func TestExamplesOfMost(t *testing.T) {
	same(t, "MostKey(512)", node.MostKey(512), 64)
	same(t, "MostValue(512)", node.MostValue(512), 96)
	same(t, "MostKey(500)", node.MostKey(500), 0)
}

// P8.4.
func TestExamplesOfFill(t *testing.T) {
	same(t, "none", node.Fill(1, api.PageLeaf, nil, 512), 4)
	same(t, "one cell", node.Fill(1, api.PageLeaf, row(value("k", long(96))), 512), 56)
	same(t, "no engine", node.Fill(3, api.PageLeaf, row(value("k", long(96))), 512), 0)
}

// P8.5.
func TestExamplesOfHalf(t *testing.T) {
	like := row(value("a", "1"), value("b", "2"), value("c", "3"), value("d", "4"), value("e", "5"))
	for _, x := range []struct {
		what  string
		cells []api.Cell
		at    int
		want  api.Errno
	}{
		{"three", like[:3], 0, api.ErrFit},
		{"four", like[:4], 2, api.OK},
		{"five", like, 2, api.OK},
		{"8, 8, 8, 100, 100", row(value("a", ""), value("b", ""), value("c", ""), value("d", long(92)), value("e", long(92))), 3, api.OK},
	} {
		at, e := node.Half(1, api.PageLeaf, x.cells, 512)
		same(t, x.what, e, x.want)
		same(t, x.what, at, x.at)
	}
}

func TestExampleOfTheGreaterSize(t *testing.T) {
	cells := row(value("a", ""), value("b", ""), value("c", ""), value("d", long(92)), value("e", long(92)))
	for i, want := range []int{8, 8, 8, 100, 100} {
		same(t, "what a cell takes", size(1, api.PageLeaf, cells[i:i+1])-8, want)
	}
	same(t, "the greater Size at 3", greaterSize(1, api.PageLeaf, cells, 3), 208)
	same(t, "the greater Size at 2", greaterSize(1, api.PageLeaf, cells, 2), 216)
}
