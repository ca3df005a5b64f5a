package packed_test

import (
	"testing"

	"espalier/api"
	"espalier/packed"
)

// The chapter's table, row by row: P7.1.
func TestExamplesOfSize(t *testing.T) {
	same(t, "none", packed.Size(api.PageLeaf, nil), 10)
	same(t, "ab=x", packed.Size(api.PageLeaf, row(value("ab", "x"))), 18)
	same(t, "ab=x ac=yz", packed.Size(api.PageLeaf, row(value("ab", "x"), value("ac", "yz"))), 26)
	same(t, "a branch", packed.Size(api.PageBranch, row(child("", 2, 3), child("ab", 4, 5), child("ac", 300, 6))), 32)
}

// P7.2, P7.3.
func TestExamplesOfBytes(t *testing.T) {
	cells := row(value("ab", "x"), value("ac", "yz"))
	b, e := packed.Encode(api.PageLeaf, cells, 512)
	same(t, "Encode", e, api.OK)
	same(t, "bytes", len(b), 512)
	same(t, "the first 24", string(b[:24]), "\x02\x02\x00\x02\x00\x01\x61\x00\x0b\x00\x10\x01\x01\x62\x01\x78\x01\x01\x63\x02\x79\x7a\x00\x00")
	sameBytes(t, "zeros behind them", b[24:508], make([]byte, 484))
	sameBytes(t, "the whole page", b, laid(api.PageLeaf, cells, 512))
	refuses(t, "ac, ab", api.PageLeaf, row(value("ac", ""), value("ab", "")), 512, api.ErrOrder)
	refuses(t, "without a key", api.PageLeaf, row(value("", "x")), 512, api.ErrCell)
	refuses(t, "kind 4", 4, nil, 512, api.ErrArg)
	kind, l, e := packed.Decode(b)
	same(t, "Decode", e, api.OK)
	same(t, "Decode's kind", kind, api.PageLeaf)
	sameCells(t, "Decode", l, cells)
	b[20] ^= 1
	corrupt(t, "a turned byte", b)
	corrupt(t, "nothing", nil)
}

// P7.4, P7.5, P7.7 to P7.9.
func TestExamplesOfWork(t *testing.T) {
	p := made(t, api.PageLeaf, 512)
	told := func(what, prefix string, waste, used int) {
		t.Helper()
		same(t, what+": Prefix", string(p.Prefix()), prefix)
		same(t, what+": Waste", p.Waste(), waste)
		same(t, what+": Used", p.Used(), used)
	}
	same(t, "Insert(0, ab=x)", p.Insert(0, value("ab", "x")), api.OK)
	told("Insert(0, ab=x)", "", 0, 18)
	p.Tidy()
	told("Tidy", "ab", 0, 18)
	same(t, "Insert(1, ac=yz)", p.Insert(1, value("ac", "yz")), api.OK)
	told("Insert(1, ac=yz)", "a", 0, 26)
	same(t, "Set(0, ab=w)", p.Set(0, value("ab", "w")), api.OK)
	told("Set(0, ab=w)", "a", 5, 26)
	same(t, "Remove(1)", p.Remove(1), api.OK)
	told("Remove(1)", "a", 11, 18)
	same(t, "Insert(0, b=v)", p.Insert(0, value("b", "v")), api.ErrOrder)
	same(t, "Insert(1, ab=v)", p.Insert(1, value("ab", "v")), api.ErrOrder)
	same(t, "Insert(3, z=v)", p.Insert(3, value("z", "v")), api.ErrSlot)
	told("what was refused", "a", 11, 18)
	same(t, "Remove(0)", p.Remove(0), api.OK)
	told("Remove(0)", "", 0, 10)
}

// P7.9: a branch whose second key has no room, if it stands whole.
func TestExampleOfABranch(t *testing.T) {
	cells := row(child("", 2, 1))
	for i := range 62 {
		cells = append(cells, child(long(60)+string([]byte{byte(i)}), 2, 1))
	}
	same(t, "Size", packed.Size(api.PageBranch, cells), 510)
	same(t, "Size of the others", packed.Size(api.PageBranch, cells[1:]), 564)
	same(t, "Size of those behind", packed.Size(api.PageBranch, cells[2:]), 557)
	p, l := opened(t, api.PageBranch, 512, cells...)
	same(t, "Remove(0)", p.Remove(0), api.ErrFit)
	stands(t, "Remove(0)", p, l)
	same(t, "Remove(1)", p.Remove(1), api.OK)
	same(t, "Remove(1) of the list", l.remove(1), api.OK)
	stands(t, "Remove(1)", p, l)
	same(t, "Remove(0) once more", p.Remove(0), api.ErrFit)
	stands(t, "Remove(0) once more", p, l)
}

// P7.6.
func TestExamplesOfFind(t *testing.T) {
	p, _ := filled(t, api.PageLeaf, 512, value("ab", "x"), value("ac", "yz"))
	finds(t, p, "ab", 0, true)
	finds(t, p, "aa", 0, false)
	finds(t, p, "b", 2, false)
}

// finds holds Find, and Near with hints here and there.
func finds(t *testing.T, p *packed.Page, key string, at int, is bool) {
	t.Helper()
	i, there := p.Find([]byte(key))
	if i != at || there != is {
		t.Errorf("Find(%q): %d, %v, want %d, %v", key, i, there, at, is)
	}
	for _, hint := range []int{-1, 0, at - 1, at, at + 1, p.Len() / 2, p.Len(), p.Len() + 1} {
		nears(t, p, key, hint, at, is)
	}
}

func nears(t *testing.T, p *packed.Page, key string, hint, at int, is bool) {
	t.Helper()
	i, there := p.Near([]byte(key), hint)
	if i != at || there != is {
		t.Errorf("Near(%q, %d): %d, %v, want %d, %v", key, hint, i, there, at, is)
	}
}
