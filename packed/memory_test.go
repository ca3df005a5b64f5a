package packed_test

import (
	"bytes"
	"slices"
	"testing"

	"espalier/api"
	"espalier/packed"
)

const spare = 64

// roomy lays b into memory of its own, with marked spare room behind it.
func roomy(b []byte) []byte {
	return append(bytes.Clone(b), bytes.Repeat([]byte{0xa5}, spare)...)[:len(b)]
}

// scribble writes over bytes and the spare room behind them.
func scribble(b []byte, with byte) {
	b = b[:cap(b)]
	for i := range b {
		b[i] = with
	}
}

func untouched(t *testing.T, what string, b, want []byte) {
	t.Helper()
	sameBytes(t, what+": what was handed in", b, want)
	sameBytes(t, what+": the spare room", b[len(b):len(b)+spare], bytes.Repeat([]byte{0xa5}, spare))
}

// roomyCell has a key and a value in memory of their own, with spare room.
func roomyCell(c api.Cell) api.Cell {
	c.Key, c.Value = roomy(c.Key), roomy(c.Value)
	return c
}

// roomyRow has cells in memory of their own, and some behind them.
func roomyRow(cells []api.Cell) []api.Cell {
	l := slices.Clone(cells)
	for i := range l {
		l[i] = roomyCell(l[i])
	}
	return append(l, marker(), marker(), marker())[:len(l)]
}

func marker() api.Cell { return api.Cell{Kind: -5, Page: -6, Count: -7} }

func untouchedCell(t *testing.T, what string, c, want api.Cell) {
	t.Helper()
	sameCell(t, what, c, want)
	untouched(t, what+": key", c.Key, want.Key)
	untouched(t, what+": value", c.Value, want.Value)
}

func untouchedRow(t *testing.T, what string, l, want []api.Cell) {
	t.Helper()
	same(t, what+": cells", len(l), len(want))
	for i, c := range l {
		untouchedCell(t, what, c, want[i])
	}
	for _, c := range l[len(l) : len(l)+3] {
		sameCell(t, what+": the cells behind", c, marker())
	}
}

func scribbleCell(c api.Cell, with byte) {
	scribble(c.Key, with)
	scribble(c.Value, with)
}

// rows are good and bad ones, of a leaf.
func rows() [][]api.Cell {
	return [][]api.Cell{
		nil, someCells(api.PageLeaf, 512)[:7], few(api.PageLeaf, 512, 512), few(api.PageLeaf, 512, 513),
		row(value("b", "1"), value("a", "2")), row(value("", "")), row(child("k", 2, 1)), row(value("k", long(97))),
	}
}

// P7.12: what Size and Encode are handed is not changed, nor the spare room behind it.
func TestCellsHandedInStay(t *testing.T) {
	for _, cells := range rows() {
		for _, kind := range []int{api.PageLeaf, api.PageBranch, api.PageMeta} {
			l := roomyRow(cells)
			packed.Size(kind, l)
			untouchedRow(t, "Size", l, cells)
			packed.Encode(kind, l, 512)
			untouchedRow(t, "Encode", l, cells)
		}
	}
}

// P7.12: what Decode and Open are handed is not changed, nor the spare room behind it.
func TestBytesHandedInStay(t *testing.T) {
	good := laid(api.PageLeaf, someCells(api.PageLeaf, 512)[:7], 512)
	wrong := bytes.Clone(good)
	wrong[500]++
	for what, b := range map[string][]byte{"good": good, "wrong": wrong, "cut": good[:511], "long": append(bytes.Clone(good), 0), "nothing": nil, "no kind": bent(good, 0, "\x09"), "a slot": bent(good, 6, "\x00"), "n": bent(good, 3, "\xf0")} {
		mine := roomy(b)
		packed.Decode(mine)
		untouched(t, "Decode of "+what, mine, b)
		packed.Open(mine)
		untouched(t, "Open of "+what, mine, b)
	}
}

// P7.12: what Find, Near, Insert and Set are handed is not changed, whether they take it or not.
func TestWhatAPageIsHandedStays(t *testing.T) {
	for _, x := range []struct {
		i int
		c api.Cell
	}{
		{0, value("a", "1")}, {1, value("a", "1")}, {1, value("c", "12345")}, {2, value("z", "")}, {9, value("z", "")}, {1, value("", "1")}, {1, value("c", long(97))},
		{1, spill("c", 2, 97)}, {1, tree("b", 0, 0)}, {0, child("a", 2, 1)}, {2, value("z"+long(60), long(96))}, {1, value("kbb", "1")}, {2, value("kz", "12")},
	} {
		p, _ := opened(t, api.PageLeaf, 512, value("kb", "1"), value("kd", "2"))
		c := roomyCell(x.c)
		p.Find(c.Key)
		untouchedCell(t, "Find", c, x.c)
		p.Near(c.Key, x.i)
		untouchedCell(t, "Near", c, x.c)
		p.Insert(x.i, c)
		untouchedCell(t, "Insert", c, x.c)
		p.Set(x.i, c)
		untouchedCell(t, "Set", c, x.c)
		p.Tidy()
		untouchedCell(t, "Tidy", c, x.c)
	}
}

// stemmed are cells that share a stem.
func stemmed(kind, n int, stem string) []api.Cell {
	cells := rowOf(kind, n)
	for i := range cells {
		cells[i].Key = []byte(stem + string(cells[i].Key))
	}
	return cells
}

// P7.12: what was handed in may be written over afterwards.
func TestWhatIsHandedInIsNotKept(t *testing.T) {
	for _, kind := range kinds() {
		cells := stemmed(kind, 6, "stem")
		p, l := made(t, kind, 512), anew(kind, 512, nil)
		for i, c := range cells {
			mine := roomyCell(c)
			same(t, "Insert", p.Insert(i, mine), l.insert(i, c))
			scribbleCell(mine, 0xee)
			stands(t, "Insert, written over", p, l)
			if i == 3 {
				p.Tidy()
				l.tidy()
			}
		}
		mine := roomyCell(other(kind, string(cells[1].Key)))
		same(t, "Set", p.Set(1, mine), l.set(1, other(kind, string(cells[1].Key))))
		scribbleCell(mine, 0xee)
		stands(t, "Set, written over", p, l)
		mine = roomyCell(other(kind, "\xff"))
		same(t, "Insert that lays anew", p.Insert(6, mine), l.insert(6, other(kind, "\xff")))
		scribbleCell(mine, 0xee)
		stands(t, "Insert that lays anew, written over", p, l)
		key := roomy(cells[2].Key)
		p.Find(key)
		p.Near(key, 3)
		scribble(key, 0xee)
		finds(t, p, string(cells[2].Key), 2, true)

		cellsIn := roomyRow(cells)
		b, _ := packed.Encode(kind, cellsIn, 512)
		for _, c := range cellsIn {
			scribbleCell(c, 0xee)
		}
		sameBytes(t, "Encode, written over", b, laid(kind, cells, 512))

		bytesIn := roomy(laid(kind, cells, 512))
		q, e := packed.Open(bytesIn)
		same(t, "Open", e, api.OK)
		_, told, _ := packed.Decode(bytesIn)
		scribble(bytesIn, 0xee)
		m := anew(kind, 512, cells)
		stands(t, "Open, written over", q, m)
		sameCells(t, "Decode, written over", told, cells)
		same(t, "Insert behind that", q.Insert(6, other(kind, "stem\xff")), m.insert(6, other(kind, "stem\xff")))
		stands(t, "Insert behind that", q, m)
		same(t, "what was written over", bytes.Count(bytesIn[:cap(bytesIn)], []byte{0xee}), cap(bytesIn))
	}
}

// P7.12: what a page tells shares no memory with it.
func TestWhatAPageTellsIsNewMemory(t *testing.T) {
	for _, kind := range kinds() {
		cells := stemmed(kind, 6, "stem")
		a, l := filled(t, kind, 512, cells...)
		b, m := opened(t, kind, 512, cells...)
		c, n := opened(t, kind, 512, cells...)
		same(t, "Set", c.Set(2, cells[2]), n.set(2, cells[2]))
		for p, l := range map[*packed.Page]*list{a: l, b: m, c: n} {
			for i := range cells {
				c, _ := p.Cell(i)
				d, _ := p.Cell(i)
				scribbleCell(c, 0x11)
				sameCell(t, "the same cell told twice", d, cells[i])
				scribbleCell(d, 0x22)
				stands(t, "Cell, written over", p, l)
			}
			x, y := p.Bytes(), p.Bytes()
			scribble(x, 0x33)
			sameBytes(t, "Bytes told twice", y, laid(kind, cells, 512))
			scribble(y, 0x44)
			stands(t, "Bytes, written over", p, l)
			x, y = p.Prefix(), p.Prefix()
			scribble(x, 0x55)
			same(t, "Prefix told twice", string(y), l.prefix)
			scribble(y, 0x66)
			stands(t, "Prefix, written over", p, l)
		}
	}
}

// P7.12: what a page told stays, whatever is done to the page.
func TestWhatWasToldStays(t *testing.T) {
	cells := stemmed(api.PageLeaf, 8, "stem")
	p, _ := opened(t, api.PageLeaf, 512, cells...)
	var told []api.Cell
	for i := range cells {
		c, _ := p.Cell(i)
		told = append(told, c)
	}
	b, prefix := p.Bytes(), p.Prefix()
	for i := range 8 {
		same(t, "Set", p.Set(i, value(string(cells[i].Key), long(9))), api.OK)
	}
	for range 8 {
		same(t, "Remove", p.Remove(0), api.OK)
	}
	for i := range 20 {
		same(t, "Insert", p.Insert(i, value(keyOf(i+1), "zzzz")), api.OK)
	}
	p.Tidy()
	sameCells(t, "what Cell told", told, cells)
	sameBytes(t, "what Bytes told", b, laid(api.PageLeaf, cells, 512))
	same(t, "what Prefix told", string(prefix), "stem")
}

// P7.12: no two lists of one answer, and no two answers, share memory, nor room behind them.
func TestWhatDecodeTellsIsNewMemory(t *testing.T) {
	for _, kind := range kinds() {
		for _, cells := range [][]api.Cell{someCells(kind, 4096), stemmed(kind, 6, "stem")} {
			b := laid(kind, cells, 4096)
			_, first, _ := packed.Decode(b)
			_, second, _ := packed.Decode(b)
			for i := range first {
				for _, part := range []*[]byte{&first[i].Key, &first[i].Value} {
					kept := bytes.Clone(*part)
					scribble(*part, 0x77)
					// But for what was written over, all stand as they were.
					copy(*part, kept)
					sameCells(t, "the cells beside it", first, cells)
					*part = append(*part, 0x99)[:len(kept)]
					sameCells(t, "the cells behind what was made longer", first, cells)
				}
			}
			for i := range first {
				scribbleCell(first[i], 0x66)
			}
			first = append(first[:0], make([]api.Cell, cap(first))...)
			sameCells(t, "another answer", second, cells)
			sameBytes(t, "what was decoded", b, laid(kind, cells, 4096))
			reads(t, "behind that", b, kind, cells)
		}
	}
}

// P7.12: what Encode answers shares no memory with another answer.
func TestWhatEncodeTellsIsNewMemory(t *testing.T) {
	cells := rowOf(api.PageLeaf, 4)
	var answers [][]byte
	for range 4 {
		b, e := packed.Encode(api.PageLeaf, cells, 512)
		same(t, "Encode", e, api.OK)
		answers = append(answers, b)
	}
	for i, b := range answers {
		scribble(b, byte(200+i))
	}
	for i, b := range answers {
		sameBytes(t, "an answer written over", b[:cap(b)], bytes.Repeat([]byte{byte(200 + i)}, cap(b)))
	}
	takes(t, "behind that", api.PageLeaf, cells, 512)
}

// P7.12: two pages have nothing in common, also of the same bytes.
func TestTwoPages(t *testing.T) {
	for _, kind := range kinds() {
		cells := stemmed(kind, 6, "stem")
		b := laid(kind, cells, 512)
		p, _ := packed.Open(b)
		q, _ := packed.Open(b)
		for i := range 6 {
			same(t, "Set", p.Set(i, other(kind, string(cells[i].Key))), api.OK)
			stands(t, "the other page", q, anew(kind, 512, cells))
		}
		same(t, "Remove", p.Remove(0), api.OK)
		same(t, "Insert", p.Insert(5, other(kind, "\xff")), api.OK)
		p.Tidy()
		stands(t, "the other page", q, anew(kind, 512, cells))
		sameBytes(t, "the bytes", b, laid(kind, cells, 512))
	}
}
