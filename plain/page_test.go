package plain_test

import (
	"math"
	"slices"
	"strconv"
	"testing"

	"espalier/api"
	"espalier/plain"
)

// places are all from below 0 to above n, and those far off.
func places(n int) []int {
	l := []int{math.MinInt, math.MinInt + 1, -65536, 65536, 1 << 32, math.MaxInt - 1, math.MaxInt}
	for i := -3; i <= n+3; i++ {
		l = append(l, i)
	}
	return l
}

func keyOf(i int) string { return string([]byte{byte(10 * i)}) }

// rowOf are n cells of a page of that kind.
func rowOf(kind, n int) []api.Cell {
	var cells []api.Cell
	for i := range n {
		c := value(keyOf(i+1), long(i))
		if kind == api.PageBranch {
			c = child(keyOf(i+1), 2+i, 1+i)
		}
		cells = append(cells, c)
	}
	return cells
}

// other is a cell of the same kind of page with another key.
func other(kind int, key string) api.Cell {
	if kind == api.PageBranch {
		return child(key, 65535, 77)
	}
	return value(key, "other")
}

// P6.4: a new page; one of bytes.
func TestNewAndOpen(t *testing.T) {
	for _, page := range sizes() {
		for _, kind := range kinds() {
			stands(t, "New", made(t, kind, page), kind, nil, page)
			cells := rowOf(kind, 6)
			p := filled(t, kind, page, cells...)
			stands(t, "filled", p, kind, cells, page)
			again, e := plain.Open(p.Bytes())
			same(t, "Open of Bytes", e, api.OK)
			stands(t, "Open of Bytes", again, kind, cells, page)
			same(t, "Insert behind Open", again.Insert(6, other(kind, "\xff")), api.OK)
			stands(t, "Insert behind Open", again, kind, append(slices.Clone(cells), other(kind, "\xff")), page)
			stands(t, "the other page", p, kind, cells, page)
		}
	}
}

// P6.5: at every place.
func TestCell(t *testing.T) {
	for _, kind := range kinds() {
		for n := range 5 {
			cells := rowOf(kind, n)
			p := filled(t, kind, 512, cells...)
			for _, i := range places(n) {
				c, e := p.Cell(i)
				if i >= 0 && i < n {
					same(t, "Cell", e, api.OK)
					sameCell(t, "Cell", c, cells[i])
					continue
				}
				same(t, "Cell of none", e, api.ErrSlot)
				sameCell(t, "Cell beside the error", c, api.Cell{})
			}
			stands(t, "behind Cell", p, kind, cells, 512)
		}
	}
}

// P6.5: keys that are there, and those between, ahead and behind.
func TestFind(t *testing.T) {
	keys := []string{"\x00", "\x00\x00", "\x00\xff", "a", "a\x00", "aa", "ab", "b", "\xfe\xff", "\xff", "\xff\x00", "\xff\xff"}
	asked := slices.Clone(keys)
	for _, k := range keys {
		asked = append(asked, k+"\x00", k+"\xff", k[:len(k)-1], long(1000), k+long(1000))
	}
	for _, kind := range kinds() {
		for n := 0; n <= len(keys); n++ {
			p, l := made(t, kind, 512), list{kind: kind, page: 512}
			for i, k := range keys[:n] {
				same(t, "Insert", p.Insert(i, other(kind, k)), api.OK)
				same(t, "Insert into the list", l.insert(i, other(kind, k)), api.OK)
			}
			for _, k := range asked {
				at, is := l.find([]byte(k))
				finds(t, p, k, at, is)
			}
			if at, is := p.Find(nil); at != 0 || is {
				t.Errorf("Find(nil): %d, %v", at, is)
			}
		}
	}
	p := filled(t, api.PageBranch, 512, child("", 2, 1), child("a", 3, 1))
	finds(t, p, "", 0, true)
	finds(t, p, "\x00", 1, false)
	finds(t, p, "a", 1, true)
	finds(t, p, "a\x00", 2, false)
}

// P6.5: in a page of as many cells as there can be.
func TestFindAmongMany(t *testing.T) {
	for _, kind := range kinds() {
		cells := many(kind, 65536)
		p, e := plain.Open(laid(kind, cells, 65536))
		same(t, "Open", e, api.OK)
		for i, c := range cells {
			finds(t, p, string(c.Key), i, true)
			if n := i + 1; n == len(cells) || string(cells[n].Key) != string(c.Key)+"\x00" {
				finds(t, p, string(c.Key)+"\x00", n, false)
			}
		}
	}
}

// tried does something to a page with these cells and holds what comes of it against a list of them; it tells what came.
func tried(t *testing.T, what string, kind int, cells []api.Cell, do func(p *plain.Page) api.Errno, same func(l *list) api.Errno) api.Errno {
	t.Helper()
	p, l := filled(t, kind, 512, cells...), &list{kind: kind, page: 512, cells: cells}
	got, want := do(p), same(l)
	if got != want {
		t.Errorf("%s: %d, want %d", what, got, want)
	}
	stands(t, what, p, kind, l.cells, 512)
	return got
}

// P6.6: with every key about those that are there, and a cell that may not be, at every place.
func TestInsertAndSetEverywhere(t *testing.T) {
	for _, kind := range kinds() {
		for n := range 5 {
			cells := rowOf(kind, n)
			for _, i := range places(n) {
				at := strconv.Itoa(i)
				for k := 5; k <= 10*n+15; k += 5 {
					c := other(kind, string([]byte{byte(k)}))
					tried(t, "Insert at "+at, kind, cells, func(p *plain.Page) api.Errno { return p.Insert(i, c) }, func(l *list) api.Errno { return l.insert(i, c) })
					tried(t, "Set at "+at, kind, cells, func(p *plain.Page) api.Errno { return p.Set(i, c) }, func(l *list) api.Errno { return l.set(i, c) })
				}
				bad := other(5-kind, keyOf(i))
				want, wantSet := api.ErrCell, api.ErrCell
				if i < 0 || i > n {
					want = api.ErrSlot
				}
				if i < 0 || i >= n {
					wantSet = api.ErrSlot
				}
				same(t, "Insert of no cell at "+at, tried(t, "no cell", kind, cells, func(p *plain.Page) api.Errno { return p.Insert(i, bad) }, func(l *list) api.Errno { return l.insert(i, bad) }), want)
				same(t, "Set of no cell at "+at, tried(t, "no cell", kind, cells, func(p *plain.Page) api.Errno { return p.Set(i, bad) }, func(l *list) api.Errno { return l.set(i, bad) }), wantSet)
				tried(t, "Remove at "+at, kind, cells, func(p *plain.Page) api.Errno { return p.Remove(i) }, func(l *list) api.Errno { return l.remove(i) })
			}
		}
	}
}

// P6.6: where each of the keys may go, told without a list.
func TestWhereKeysMayGo(t *testing.T) {
	start := row(value("b", "1"), value("d", "2"), value("f", "3"))
	const ok, order, slot, noCell = api.OK, api.ErrOrder, api.ErrSlot, api.ErrCell
	for _, x := range []struct {
		key         string
		insert, set [5]api.Errno
	}{
		{"a", [5]api.Errno{ok, order, order, order, slot}, [5]api.Errno{ok, order, order, slot, slot}},
		{"b", [5]api.Errno{order, order, order, order, slot}, [5]api.Errno{ok, order, order, slot, slot}},
		{"c", [5]api.Errno{order, ok, order, order, slot}, [5]api.Errno{ok, ok, order, slot, slot}},
		{"d", [5]api.Errno{order, order, order, order, slot}, [5]api.Errno{order, ok, order, slot, slot}},
		{"e", [5]api.Errno{order, order, ok, order, slot}, [5]api.Errno{order, ok, ok, slot, slot}},
		{"f", [5]api.Errno{order, order, order, order, slot}, [5]api.Errno{order, order, ok, slot, slot}},
		{"g", [5]api.Errno{order, order, order, ok, slot}, [5]api.Errno{order, order, ok, slot, slot}},
		{"", [5]api.Errno{noCell, noCell, noCell, noCell, slot}, [5]api.Errno{noCell, noCell, noCell, slot, slot}},
	} {
		for i := range 5 {
			p := filled(t, api.PageLeaf, 512, start...)
			same(t, "Insert("+strconv.Itoa(i)+", "+x.key+")", p.Insert(i, value(x.key, "new")), x.insert[i])
			p = filled(t, api.PageLeaf, 512, start...)
			same(t, "Set("+strconv.Itoa(i)+", "+x.key+")", p.Set(i, value(x.key, "new")), x.set[i])
		}
	}
}

// P6.6: an empty key goes ahead of all in a branch, and nowhere else.
func TestEmptyKeyInBranch(t *testing.T) {
	p := filled(t, api.PageBranch, 512, child("a", 2, 1), child("b", 3, 1))
	same(t, "Insert(1)", p.Insert(1, child("", 9, 9)), api.ErrOrder)
	same(t, "Insert(2)", p.Insert(2, child("", 9, 9)), api.ErrOrder)
	same(t, "Set(1)", p.Set(1, child("", 9, 9)), api.ErrOrder)
	same(t, "Insert(0)", p.Insert(0, child("", 9, 9)), api.OK)
	same(t, "Insert(0) again", p.Insert(0, child("", 9, 9)), api.ErrOrder)
	same(t, "Set(0)", p.Set(0, child("", 8, 8)), api.OK)
	stands(t, "at the end", p, api.PageBranch, row(child("", 8, 8), child("a", 2, 1), child("b", 3, 1)), 512)
}

// P6.6: ErrSlot, ErrCell, ErrOrder, ErrFit, in this order.
func TestWhichErrorOfThePageIsFirst(t *testing.T) {
	full := rowOf(api.PageLeaf, 20)
	full = stretched(full, 512-size(full)-96)
	full = append(full, value("\xf0", long(96-8)))
	p := filled(t, api.PageLeaf, 512, full...)
	same(t, "Used", p.Used(), 512)
	falls, fits, bad := value("\x01", long(96)), value("\xf1", ""), value("", long(97))
	for _, x := range []struct {
		what string
		got  api.Errno
		want api.Errno
	}{
		{"Insert nowhere", p.Insert(22, bad), api.ErrSlot},
		{"Insert nowhere", p.Insert(-1, falls), api.ErrSlot},
		{"Insert of no cell", p.Insert(21, bad), api.ErrCell},
		{"Insert of no cell, in the wrong place", p.Insert(3, bad), api.ErrCell},
		{"Insert of one that falls", p.Insert(21, falls), api.ErrOrder},
		{"Insert of one that is there", p.Insert(20, full[20]), api.ErrOrder},
		{"Insert of one that has no room", p.Insert(21, fits), api.ErrFit},
		{"Set nowhere", p.Set(21, bad), api.ErrSlot},
		{"Set nowhere", p.Set(-1, falls), api.ErrSlot},
		{"Set of no cell", p.Set(20, bad), api.ErrCell},
		{"Set of one that falls", p.Set(20, falls), api.ErrOrder},
		{"Set of one that has no room", p.Set(20, value("\xf0", long(89))), api.ErrFit},
		{"Set of the first that has no room", p.Set(0, value("\x01", "1")), api.ErrFit},
		{"Remove nowhere", p.Remove(21), api.ErrSlot},
		{"Remove nowhere", p.Remove(-1), api.ErrSlot},
	} {
		same(t, x.what, x.got, x.want)
	}
	stands(t, "behind all refusals", p, api.PageLeaf, full, 512)
	same(t, "Set of one that has just room", p.Set(20, value("\xf0", long(88))), api.OK)
	same(t, "Set of a shorter one", p.Set(20, value("\xf0", long(80))), api.OK)
	same(t, "Insert of one that has just room", p.Insert(21, value("\xf1", "")), api.OK)
	same(t, "Used", p.Used(), 512)
}

// P6.6: a page that is filled to its last byte, and one byte more, anywhere in it, at every size.
func TestFullPages(t *testing.T) {
	for _, page := range sizes() {
		for _, kind := range kinds() {
			cells := few(kind, page, page)
			tooLong := 0
			for at, c := range cells {
				rest := slices.Delete(slices.Clone(cells), at, at+1)
				p := filled(t, kind, page, rest...)
				longer := stretched(row(c), 1)[0]
				if mayBe(kind, page, longer) {
					tooLong++
					same(t, "Insert of a byte too many", p.Insert(at, longer), api.ErrFit)
					stands(t, "with room still", p, kind, rest, page)
				}
				same(t, "Insert of what has just room", p.Insert(at, c), api.OK)
				stands(t, "full", p, kind, cells, page)
				if mayBe(kind, page, longer) {
					same(t, "Set of a byte too many", p.Set(at, longer), api.ErrFit)
				}
				same(t, "Set of the same", p.Set(at, c), api.OK)
				stands(t, "full still", p, kind, cells, page)
				same(t, "Remove", p.Remove(at), api.OK)
				stands(t, "with room", p, kind, rest, page)
			}
			if tooLong == 0 {
				t.Error("no cell could be made longer")
			}
		}
	}
}

// P6.6: one kind of cell in the place of another.
func TestSetOfOtherKinds(t *testing.T) {
	kindsOf := row(value("k", ""), value("k", long(96)), spill("k", 2, 97), tree("k", 0, 0), tree("k", 65535, 1<<30))
	for _, a := range kindsOf {
		for _, b := range kindsOf {
			p := filled(t, api.PageLeaf, 512, value("a", "1"), a, value("z", "2"))
			same(t, "Set", p.Set(1, b), api.OK)
			stands(t, "Set", p, api.PageLeaf, row(value("a", "1"), b, value("z", "2")), 512)
		}
	}
}

// P6.6: removed from either end, and from within, until none is left.
func TestRemoveAll(t *testing.T) {
	for _, kind := range kinds() {
		for _, which := range []func(n int) int{func(n int) int { return 0 }, func(n int) int { return n - 1 }, func(n int) int { return n / 2 }} {
			l := &list{kind: kind, page: 512, cells: rowOf(kind, 12)}
			p := filled(t, kind, 512, l.cells...)
			for len(l.cells) > 0 {
				i := which(len(l.cells))
				l.remove(i)
				same(t, "Remove", p.Remove(i), api.OK)
				stands(t, "Remove", p, kind, l.cells, 512)
			}
			same(t, "Remove of none", p.Remove(0), api.ErrSlot)
			same(t, "Insert behind all that", p.Insert(0, rowOf(kind, 1)[0]), api.OK)
			stands(t, "Insert behind all that", p, kind, rowOf(kind, 1), 512)
		}
	}
}
