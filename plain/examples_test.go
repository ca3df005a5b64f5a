package plain_test

import (
	"testing"

	"espalier/api"
	"espalier/ink"
	"espalier/plain"
)

// told is a page of 512 bytes: the bytes ahead, zeros, those behind, the sum.
func told(ahead, behind string) []byte {
	b := append([]byte(ahead), make([]byte, 508-len(ahead)-len(behind))...)
	b = append(b, behind...)
	return append(b, ink.Fixed(uint64(ink.Sum(b)), 4)...)
}

// The chapter's table, row by row: P6.1, P6.2.
func TestExamplesOfEncode(t *testing.T) {
	second, third := row(value("a", "xy")), row(child("", 7, 3))
	for _, x := range []struct {
		kind  int
		cells []api.Cell
		want  []byte
	}{
		{api.PageLeaf, nil, told("\x02\x01\x00\x00", "")},
		{api.PageLeaf, second, told("\x02\x01\x00\x01\x01\xf4", "\x01\x00\x01\x61\x00\x02\x78\x79")},
		{api.PageBranch, third, told("\x03\x01\x00\x01\x01\xf1", "\x03\x00\x00\x00\x00\x00\x07\x00\x00\x00\x03")},
	} {
		b, e := plain.Encode(x.kind, x.cells, 512)
		same(t, "Encode", e, api.OK)
		sameBytes(t, "Encode", b, x.want)
		reads(t, "what is told", x.want, x.kind, x.cells)
	}
	same(t, "Size of the second", plain.Size(api.PageLeaf, second), 18)
	same(t, "Size of the third", plain.Size(api.PageBranch, third), 21)
}

func TestExamplesOfRefusals(t *testing.T) {
	refuses(t, "no key", api.PageLeaf, row(value("", "x")), 512, api.ErrCell)
	refuses(t, "a child", api.PageLeaf, row(child("a", 7, 3)), 512, api.ErrCell)
	refuses(t, "b, a", api.PageLeaf, row(value("b", ""), value("a", "")), 512, api.ErrOrder)
	refuses(t, "a, a", api.PageLeaf, row(value("a", ""), value("a", "")), 512, api.ErrOrder)
	refuses(t, "PageMeta", api.PageMeta, nil, 512, api.ErrArg)
	refuses(t, "500", api.PageLeaf, nil, 500, api.ErrArg)
	var forty []api.Cell
	for i := range 40 {
		forty = append(forty, value(string(rune('A'+i)), "1234"))
	}
	same(t, "Size of 40 cells", plain.Size(api.PageLeaf, forty), 488)
	takes(t, "40 cells", api.PageLeaf, forty, 512)
	b := told("\x02\x01\x00\x01\x01\xf4", "\x01\x00\x01\x61\x00\x02\x78\x79")
	b[100] = 1
	corrupt(t, "a zero turned", summed(b))
}

// P6.4 to P6.6.
func TestExamplesOfWork(t *testing.T) {
	p := made(t, api.PageLeaf, 512)
	same(t, "Insert(0, b)", p.Insert(0, value("b", "")), api.OK)
	same(t, "Insert(0, a)", p.Insert(0, value("a", "")), api.OK)
	same(t, "Insert(1, b)", p.Insert(1, value("b", "")), api.ErrOrder)
	same(t, "Insert(1, c)", p.Insert(1, value("c", "")), api.ErrOrder)
	same(t, "Insert(2, c)", p.Insert(2, value("c", "")), api.OK)
	same(t, "Insert(4, d)", p.Insert(4, value("d", "")), api.ErrSlot)
	finds(t, p, "b", 1, true)
	finds(t, p, "bb", 2, false)
	finds(t, p, "", 0, false)
	finds(t, p, "z", 3, false)
	same(t, "Set(1, a)", p.Set(1, value("a", "")), api.ErrOrder)
	same(t, "Set(1, bb)", p.Set(1, value("bb", "")), api.OK)
	same(t, "Remove(0)", p.Remove(0), api.OK)
	same(t, "Remove(2)", p.Remove(2), api.ErrSlot)
	c, e := p.Cell(0)
	same(t, "Cell(0)", e, api.OK)
	sameCell(t, "Cell(0)", c, value("bb", ""))
	stands(t, "at the end", p, api.PageLeaf, row(value("bb", ""), value("c", "")), 512)
}

func finds(t *testing.T, p *plain.Page, key string, at int, is bool) {
	t.Helper()
	i, there := p.Find([]byte(key))
	if i != at || there != is {
		t.Errorf("Find(%q): %d, %v, want %d, %v", key, i, there, at, is)
	}
}
