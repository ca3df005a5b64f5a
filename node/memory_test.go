package node_test

import (
	"bytes"
	"slices"
	"testing"

	"espalier/api"
	"espalier/node"
)

const spare = 64

// roomy lays b into memory of its own, with marked spare room behind it.
func roomy(b []byte) []byte {
	return append(bytes.Clone(b), bytes.Repeat([]byte{0xa5}, spare)...)[:len(b)]
}

// scribble writes over bytes and the spare room behind them.
func scribble(b []byte, with byte) {
	b = b[:cap(b)]
	for i := range b {
		b[i] = with
	}
}

func untouched(t *testing.T, what string, b, want []byte) {
	t.Helper()
	sameBytes(t, what+": what was handed in", b, want)
	sameBytes(t, what+": the spare room", b[len(b):len(b)+spare], bytes.Repeat([]byte{0xa5}, spare))
}

// roomyCell has a key and a value in memory of their own, with spare room.
func roomyCell(c api.Cell) api.Cell {
	c.Key, c.Value = roomy(c.Key), roomy(c.Value)
	return c
}

func marker() api.Cell { return api.Cell{Kind: -5, Page: -6, Count: -7} }

// roomyRow has cells in memory of their own, and some behind them.
func roomyRow(cells []api.Cell) []api.Cell {
	l := slices.Clone(cells)
	for i := range l {
		l[i] = roomyCell(l[i])
	}
	return append(l, marker(), marker(), marker())[:len(l)]
}

func untouchedCell(t *testing.T, what string, c, want api.Cell) {
	t.Helper()
	sameCell(t, what, c, want)
	untouched(t, what+": key", c.Key, want.Key)
	untouched(t, what+": value", c.Value, want.Value)
}

func untouchedRow(t *testing.T, what string, l, want []api.Cell) {
	t.Helper()
	same(t, what+": cells", len(l), len(want))
	for i, c := range l {
		untouchedCell(t, what, c, want[i])
	}
	for _, c := range l[len(l) : len(l)+3] {
		sameCell(t, what+": the cells behind", c, marker())
	}
}

func scribbleCell(c api.Cell, with byte) {
	scribble(c.Key, with)
	scribble(c.Value, with)
}

// R2: what Encode, Fits, Fill and Half are handed is not changed, nor the spare room behind it.
func TestCellsHandedInStay(t *testing.T) {
	for _, engine := range []int{1, 2, 3} {
		for _, kind := range []int{api.PageLeaf, api.PageBranch, api.PageMeta} {
			for _, cells := range [][]api.Cell{nil, rowOf(api.PageLeaf, 3), rowOf(api.PageLeaf, 9), rowOf(api.PageBranch, 9), rowOf(api.PageBranch, 60), stemmed(api.PageBranch, 40, "stem"), someCells(kind, 512), oddCells()} {
				l := roomyRow(cells)
				node.Encode(engine, kind, l, 512)
				untouchedRow(t, "Encode", l, cells)
				node.Fits(engine, kind, l, 512)
				untouchedRow(t, "Fits", l, cells)
				node.Fill(engine, kind, l, 512)
				untouchedRow(t, "Fill", l, cells)
				node.Half(engine, kind, l, 512)
				untouchedRow(t, "Half", l, cells)
			}
		}
	}
}

// R2: what Decode and Open are handed is not changed, nor the spare room behind it, nor kept.
func TestBytesHandedIn(t *testing.T) {
	for _, engine := range engines() {
		good := laid(engine, api.PageLeaf, rowOf(api.PageLeaf, 9), 512)
		wrong := bytes.Clone(good)
		wrong[500]++
		for what, b := range map[string][]byte{"good": good, "wrong": wrong, "cut": good[:511], "nothing": nil, "one byte": {2}, "two": {2, byte(engine)}, "no engine": append([]byte{2, 3}, good[2:]...)} {
			mine := roomy(b)
			node.Decode(mine)
			untouched(t, "Decode of "+what, mine, b)
			node.Open(mine)
			untouched(t, "Open of "+what, mine, b)
		}
		mine := roomy(good)
		n, _ := node.Open(mine)
		_, _, cells, _ := node.Decode(mine)
		scribble(mine, 0xee)
		stands(t, "Open, written over", n, engine, api.PageLeaf, rowOf(api.PageLeaf, 9), 512)
		sameCells(t, "Decode, written over", cells, rowOf(api.PageLeaf, 9))
		same(t, "Insert behind that", n.Insert(9, value("z", "")), api.OK)
		same(t, "what was written over", bytes.Count(mine[:cap(mine)], []byte{0xee}), cap(mine))
	}
}

// R2: what Find, Insert and Set are handed is not changed, and may be written over afterwards.
func TestWhatANodeIsHanded(t *testing.T) {
	for _, engine := range engines() {
		for _, kind := range kinds() {
			cells := stemmed(kind, 6, "stem")
			n := made(t, engine, kind, 512)
			for i, c := range cells {
				mine := roomyCell(c)
				n.Find(mine.Key)
				untouchedCell(t, "Find", mine, c)
				same(t, "Insert", n.Insert(i, mine), api.OK)
				untouchedCell(t, "Insert", mine, c)
				same(t, "Insert of what is there", n.Insert(i, mine), api.ErrOrder)
				same(t, "Set", n.Set(i, mine), api.OK)
				untouchedCell(t, "Set", mine, c)
				scribbleCell(mine, 0xee)
				stands(t, named("written over", engine, kind, i), n, engine, kind, cells[:i+1], 512)
			}
			bad := roomyCell(other(5-kind, "stem"))
			same(t, "Insert of what may not be", n.Insert(1, bad), api.ErrCell)
			same(t, "Set of what may not be", n.Set(1, bad), api.ErrCell)
			untouchedCell(t, "refused", bad, other(5-kind, "stem"))
			stands(t, named("behind all", engine, kind), n, engine, kind, cells, 512)
		}
	}
}

// R2: what a node tells shares no memory with it, nor with another answer.
func TestWhatANodeTellsIsNewMemory(t *testing.T) {
	for _, engine := range engines() {
		for _, kind := range kinds() {
			cells := stemmed(kind, 6, "stem")
			n := opened(t, engine, kind, 512, cells...)
			for i := range cells {
				c, _ := n.Cell(i)
				d, _ := n.Cell(i)
				scribbleCell(c, 0x11)
				sameCell(t, "the same cell told twice", d, cells[i])
				scribbleCell(d, 0x22)
				stands(t, "Cell, written over", n, engine, kind, cells, 512)
			}
			x, y := n.Bytes(), n.Bytes()
			scribble(x, 0x33)
			sameBytes(t, "Bytes told twice", y, laid(engine, kind, cells, 512))
			scribble(y, 0x44)
			stands(t, "Bytes, written over", n, engine, kind, cells, 512)
		}
	}
}

// ownMemory writes over each part of an answer in turn, and tells whether another part, or what tells the cells once more, changes by that.
func ownMemory(t *testing.T, what string, tell func() []api.Cell, want []api.Cell) {
	t.Helper()
	first, second := tell(), tell()
	for i := range first {
		for _, part := range []*[]byte{&first[i].Key, &first[i].Value} {
			kept := bytes.Clone(*part)
			scribble(*part, 0x77)
			copy(*part, kept)
			sameCells(t, what+": the cells beside it", first, want)
			*part = append(*part, 0x99)[:len(kept)]
			sameCells(t, what+": the cells behind what was made longer", first, want)
		}
	}
	for i := range first {
		scribbleCell(first[i], 0x66)
	}
	first = append(first[:0], make([]api.Cell, cap(first))...)
	sameCells(t, what+": another answer", second, want)
	sameCells(t, what+": told once more", tell(), want)
}

// R2: no two lists of what Cells and Decode answer, and no two answers, share memory.
func TestCellsToldAreNewMemory(t *testing.T) {
	for _, engine := range engines() {
		for _, kind := range kinds() {
			for _, cells := range [][]api.Cell{someCells(kind, 512), stemmed(kind, 6, "stem")} {
				n := opened(t, engine, kind, 512, cells...)
				ownMemory(t, "Cells", func() []api.Cell { return node.Cells(n) }, cells)
				stands(t, "Cells, written over", n, engine, kind, cells, 512)
				b := laid(engine, kind, cells, 512)
				ownMemory(t, "Decode", func() []api.Cell {
					_, _, l, _ := node.Decode(b)
					return l
				}, cells)
				sameBytes(t, "what was decoded", b, laid(engine, kind, cells, 512))
			}
		}
	}
}

// R2: what was told stays, whatever is done to the node.
func TestWhatWasToldStays(t *testing.T) {
	for _, engine := range engines() {
		cells := stemmed(api.PageLeaf, 8, "stem")
		n := opened(t, engine, api.PageLeaf, 512, cells...)
		told, b := node.Cells(n), n.Bytes()
		for i := range 8 {
			same(t, "Set", n.Set(i, value(string(cells[i].Key), long(9))), api.OK)
		}
		for range 8 {
			same(t, "Remove", n.Remove(0), api.OK)
		}
		for i := range 20 {
			same(t, "Insert", n.Insert(i, value(keyOf(i+1), "zzzz")), api.OK)
		}
		sameCells(t, "what Cells told", told, cells)
		sameBytes(t, "what Bytes told", b, laid(engine, api.PageLeaf, cells, 512))
	}
}

// R2: what Encode is handed is not kept, and what it answers shares no memory with another answer.
func TestWhatEncodeTellsIsNewMemory(t *testing.T) {
	for _, engine := range engines() {
		cells := rowOf(api.PageLeaf, 4)
		var answers [][]byte
		for range 4 {
			mine := roomyRow(cells)
			b, e := node.Encode(engine, api.PageLeaf, mine, 512)
			same(t, "Encode", e, api.OK)
			for _, c := range mine {
				scribbleCell(c, 0xee)
			}
			sameBytes(t, "Encode, written over", b, laid(engine, api.PageLeaf, cells, 512))
			answers = append(answers, b)
		}
		for i, b := range answers {
			scribble(b, byte(200+i))
		}
		for i, b := range answers {
			sameBytes(t, "an answer written over", b[:cap(b)], bytes.Repeat([]byte{byte(200 + i)}, cap(b)))
		}
	}
}

// P8.7: two nodes have nothing in common, of the same bytes or new, of one engine or of both.
func TestTwoNodes(t *testing.T) {
	for _, a := range engines() {
		for _, b := range engines() {
			for _, kind := range kinds() {
				cells := stemmed(kind, 6, "stem")
				one, two := opened(t, a, kind, 512, cells...), opened(t, b, kind, 512, cells...)
				for i := range 6 {
					same(t, "Set", one.Set(i, other(kind, string(cells[i].Key))), api.OK)
					stands(t, "the other node", two, b, kind, cells, 512)
				}
				same(t, "Remove", one.Remove(0), api.OK)
				same(t, "Insert", one.Insert(5, other(kind, "\xff")), api.OK)
				stands(t, "the other node", two, b, kind, cells, 512)

				one, two = made(t, a, kind, 512), made(t, b, kind, 512)
				same(t, "Insert", one.Insert(0, cells[0]), api.OK)
				stands(t, "the other new node", two, b, kind, nil, 512)
			}
		}
	}
}

// R6: what a call answers does not hang on the calls before it.
func TestNothingIsKept(t *testing.T) {
	cells := rowOf(api.PageBranch, 30)
	for range 3 {
		for _, engine := range []int{2, 1, 3, 2, 1} {
			halves(t, "Half", engine, api.PageBranch, cells, 512)
			encodes(t, "Encode", engine, api.PageBranch, cells[:9], 512)
			newIsRight(t, engine, api.PageLeaf, 512)
		}
	}
}
