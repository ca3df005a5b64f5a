package packed_test

import (
	"math"
	"slices"
	"strconv"
	"testing"

	"espalier/api"
	"espalier/packed"
)

// places are all from below 0 to above n, and those far off.
func places(n int) []int {
	l := []int{math.MinInt, math.MinInt + 1, -65536, 65536, 1 << 32, math.MaxInt - 1, math.MaxInt}
	for i := -3; i <= n+3; i++ {
		l = append(l, i)
	}
	return l
}

func keyOf(i int) string { return string([]byte{byte(10 * i)}) }

// rowOf are n cells of a page of that kind, which share nothing.
func rowOf(kind, n int) []api.Cell {
	var cells []api.Cell
	for i := range n {
		c := value(keyOf(i+1), long(i))
		if kind == api.PageBranch {
			c = child(keyOf(i+1), 2+i, 1+i)
		}
		cells = append(cells, c)
	}
	return cells
}

// P7.4: a new page; one of bytes, which is laid anew.
func TestNewAndOpen(t *testing.T) {
	for _, page := range sizes() {
		for _, kind := range kinds() {
			stands(t, "New", made(t, kind, page), &list{kind: kind, page: page})
			p, l := filled(t, kind, page, rowOf(kind, 6)...)
			stands(t, "filled", p, l)
			again, e := packed.Open(p.Bytes())
			same(t, "Open of Bytes", e, api.OK)
			m := anew(kind, page, rowOf(kind, 6))
			stands(t, "Open of Bytes", again, m)
			same(t, "Insert behind Open", again.Insert(6, other(kind, "\xff")), api.OK)
			m.insert(6, other(kind, "\xff"))
			stands(t, "Insert behind Open", again, m)
			stands(t, "the other page", p, l)
		}
	}
}

// P7.5: at every place.
func TestCell(t *testing.T) {
	for _, kind := range kinds() {
		for n := range 5 {
			cells := rowOf(kind, n)
			for _, in := range []func(*testing.T, int, int, ...api.Cell) (*packed.Page, *list){filled, opened} {
				p, l := in(t, kind, 512, cells...)
				for _, i := range places(n) {
					c, e := p.Cell(i)
					if i >= 0 && i < n {
						same(t, "Cell", e, api.OK)
						sameCell(t, "Cell", c, cells[i])
						continue
					}
					same(t, "Cell of none", e, api.ErrSlot)
					sameCell(t, "Cell beside the error", c, api.Cell{})
				}
				stands(t, "behind Cell", p, l)
			}
		}
	}
}

// P7.6: keys that are there, and those between, ahead and behind, whatever the prefix is; with every hint.
func TestFindAndNear(t *testing.T) {
	keys := []string{"\x00", "\x00\x00", "\x00\xff", "a", "a\x00", "aa", "ab", "b", "\xfe\xff", "\xff", "\xff\x00", "\xff\xff"}
	for _, kind := range kinds() {
		for _, stem := range []string{"", "a", "stem", "\x00\x00", "\xff\xff"} {
			asked := []string{"", "\x00", "\xff\xff\xff\xff", long(1000)}
			for n := range stem {
				asked = append(asked, stem[:n], stem[:n]+"\x00", stem[:n]+"\xff", stem[:n]+long(1000))
			}
			for _, k := range keys {
				k = stem + k
				asked = append(asked, k, k+"\x00", k+"\xff", k[:len(k)-1], k+long(1000))
			}
			for n := 0; n <= len(keys); n++ {
				var cells []api.Cell
				for _, k := range keys[:n] {
					cells = append(cells, other(kind, stem+k))
				}
				p, l := filled(t, kind, 512, cells...)
				q, m := opened(t, kind, 512, cells...)
				for _, k := range asked {
					at, is := l.find([]byte(k))
					for _, p := range []*packed.Page{p, q} {
						finds(t, p, k, at, is)
						for _, hint := range places(n) {
							nears(t, p, k, hint, at, is)
						}
					}
				}
				stands(t, "behind Find and Near", p, l)
				stands(t, "behind Find and Near", q, m)
			}
		}
	}
}

// P7.6: a branch's first key, which the prefix says nothing of.
func TestFindFirstOfABranch(t *testing.T) {
	for _, first := range []string{"", "a", "k", "kk", "kka"} {
		p, l := opened(t, api.PageBranch, 512, child(first, 2, 1), child("kkb", 3, 1), child("kkc", 4, 1))
		same(t, "Prefix", string(p.Prefix()), "kk")
		for _, k := range []string{"", "\x00", "a", "aa", "b", "j", "k", "k\x00", "kk", "kk\x00", "kka", "kka\x00", "kkb", "kkb\x00", "kkc", "kkd", "kl", "l"} {
			at, is := l.find([]byte(k))
			finds(t, p, k, at, is)
		}
		if at, is := p.Find(nil); at != 0 || is != (first == "") {
			t.Errorf("Find(nil): %d, %v", at, is)
		}
		if at, is := p.Near(nil, 2); at != 0 || is != (first == "") {
			t.Errorf("Near(nil, 2): %d, %v", at, is)
		}
	}
}

// P7.6: in a page of as many cells as there can be, with hints far and near.
func TestFindAmongMany(t *testing.T) {
	r := chance()
	for _, kind := range kinds() {
		cells := many(kind, 65536, "stem")
		p, e := packed.Open(laid(kind, cells, 65536))
		same(t, "Open", e, api.OK)
		for i, c := range cells {
			finds(t, p, string(c.Key), i, true)
			nears(t, p, string(c.Key), r.Intn(len(cells)), i, true)
			if n := i + 1; n == len(cells) || string(cells[n].Key) != string(c.Key)+"\x00" {
				finds(t, p, string(c.Key)+"\x00", n, false)
				nears(t, p, string(c.Key)+"\x00", r.Intn(len(cells)), n, false)
			}
		}
		for hint := -1; hint <= len(cells); hint++ {
			nears(t, p, string(cells[777].Key), hint, 777, true)
		}
	}
}

// tried does something to a page with these cells and holds what comes of it against a list of them; it tells what came. The page is one that was filled, and one that was opened.
func tried(t *testing.T, what string, kind int, cells []api.Cell, do func(p *packed.Page) api.Errno, same func(l *list) api.Errno) api.Errno {
	t.Helper()
	p, l := filled(t, kind, 512, cells...)
	q, m := opened(t, kind, 512, cells...)
	got, want := do(p), same(l)
	if again, wanted := do(q), same(m); got != want || again != wanted {
		t.Errorf("%s: %d and %d, want %d and %d", what, got, again, want, wanted)
	}
	stands(t, what, p, l)
	stands(t, what, q, m)
	return got
}

// P7.7 to P7.9: with every key about those that are there, and a cell that may not be, at every place.
func TestInsertAndSetEverywhere(t *testing.T) {
	for _, kind := range kinds() {
		for n := range 5 {
			cells := rowOf(kind, n)
			for _, i := range places(n) {
				at := strconv.Itoa(i)
				for k := 5; k <= 10*n+15; k += 5 {
					c := other(kind, string([]byte{byte(k)}))
					tried(t, "Insert at "+at, kind, cells, func(p *packed.Page) api.Errno { return p.Insert(i, c) }, func(l *list) api.Errno { return l.insert(i, c) })
					tried(t, "Set at "+at, kind, cells, func(p *packed.Page) api.Errno { return p.Set(i, c) }, func(l *list) api.Errno { return l.set(i, c) })
				}
				bad := other(5-kind, keyOf(i))
				want, wantSet := api.ErrCell, api.ErrCell
				if i < 0 || i > n {
					want = api.ErrSlot
				}
				if i < 0 || i >= n {
					wantSet = api.ErrSlot
				}
				same(t, "Insert of no cell at "+at, tried(t, "no cell", kind, cells, func(p *packed.Page) api.Errno { return p.Insert(i, bad) }, func(l *list) api.Errno { return l.insert(i, bad) }), want)
				same(t, "Set of no cell at "+at, tried(t, "no cell", kind, cells, func(p *packed.Page) api.Errno { return p.Set(i, bad) }, func(l *list) api.Errno { return l.set(i, bad) }), wantSet)
				tried(t, "Remove at "+at, kind, cells, func(p *packed.Page) api.Errno { return p.Remove(i) }, func(l *list) api.Errno { return l.remove(i) })
			}
		}
	}
}

// P7.7, P7.8: where each of the keys may go, told without a list.
func TestWhereKeysMayGo(t *testing.T) {
	start := row(value("b", "1"), value("d", "2"), value("f", "3"))
	const ok, order, slot, noCell = api.OK, api.ErrOrder, api.ErrSlot, api.ErrCell
	for _, x := range []struct {
		key         string
		insert, set [5]api.Errno
	}{
		{"a", [5]api.Errno{ok, order, order, order, slot}, [5]api.Errno{ok, order, order, slot, slot}},
		{"b", [5]api.Errno{order, order, order, order, slot}, [5]api.Errno{ok, order, order, slot, slot}},
		{"c", [5]api.Errno{order, ok, order, order, slot}, [5]api.Errno{ok, ok, order, slot, slot}},
		{"d", [5]api.Errno{order, order, order, order, slot}, [5]api.Errno{order, ok, order, slot, slot}},
		{"e", [5]api.Errno{order, order, ok, order, slot}, [5]api.Errno{order, ok, ok, slot, slot}},
		{"f", [5]api.Errno{order, order, order, order, slot}, [5]api.Errno{order, order, ok, slot, slot}},
		{"g", [5]api.Errno{order, order, order, ok, slot}, [5]api.Errno{order, order, ok, slot, slot}},
		{"", [5]api.Errno{noCell, noCell, noCell, noCell, slot}, [5]api.Errno{noCell, noCell, noCell, slot, slot}},
	} {
		for i := range 5 {
			p, _ := filled(t, api.PageLeaf, 512, start...)
			same(t, "Insert("+strconv.Itoa(i)+", "+x.key+")", p.Insert(i, value(x.key, "new")), x.insert[i])
			p, _ = filled(t, api.PageLeaf, 512, start...)
			same(t, "Set("+strconv.Itoa(i)+", "+x.key+")", p.Set(i, value(x.key, "new")), x.set[i])
		}
	}
}

// P7.7, P7.8: an empty key goes ahead of all in a branch, and nowhere else.
func TestEmptyKeyInBranch(t *testing.T) {
	p, l := filled(t, api.PageBranch, 512, child("a", 2, 1), child("b", 3, 1))
	same(t, "Insert(1)", p.Insert(1, child("", 9, 9)), api.ErrOrder)
	same(t, "Insert(2)", p.Insert(2, child("", 9, 9)), api.ErrOrder)
	same(t, "Set(1)", p.Set(1, child("", 9, 9)), api.ErrOrder)
	stands(t, "refused", p, l)
	same(t, "Insert(0)", p.Insert(0, child("", 9, 9)), api.OK)
	same(t, "Insert(0) again", p.Insert(0, child("", 9, 9)), api.ErrOrder)
	same(t, "Set(0)", p.Set(0, child("", 8, 8)), api.OK)
	l = anew(api.PageBranch, 512, row(child("", 8, 8), child("a", 2, 1), child("b", 3, 1)))
	l.waste = 4
	stands(t, "at the end", p, l)
}

// P7.7 to P7.9: ErrSlot, ErrCell, ErrOrder, ErrFit, in this order.
func TestWhichErrorOfThePageIsFirst(t *testing.T) {
	full := rowOf(api.PageLeaf, 20)
	full = append(full, value("\xd0", long(96)), value("\xf0", long(60)))
	full = stretched(full, 512-size(api.PageLeaf, full))
	p, l := opened(t, api.PageLeaf, 512, full...)
	same(t, "Used", p.Used(), 512)
	last := len(full[21].Value)
	falls, fits, bad := value("\x01", long(96)), value("\xf1", ""), value("", long(97))
	for _, x := range []struct {
		what string
		got  api.Errno
		want api.Errno
	}{
		{"Insert nowhere", p.Insert(23, bad), api.ErrSlot},
		{"Insert nowhere", p.Insert(-1, falls), api.ErrSlot},
		{"Insert of no cell", p.Insert(22, bad), api.ErrCell},
		{"Insert of no cell, in the wrong place", p.Insert(3, bad), api.ErrCell},
		{"Insert of one that falls", p.Insert(22, falls), api.ErrOrder},
		{"Insert of one that is there", p.Insert(21, full[21]), api.ErrOrder},
		{"Insert of one that has no room", p.Insert(22, fits), api.ErrFit},
		{"Set nowhere", p.Set(22, bad), api.ErrSlot},
		{"Set nowhere", p.Set(-1, falls), api.ErrSlot},
		{"Set of no cell", p.Set(21, bad), api.ErrCell},
		{"Set of one that falls", p.Set(21, falls), api.ErrOrder},
		{"Set of one that has no room", p.Set(21, value("\xf0", long(last+1))), api.ErrFit},
		{"Set of the first that has no room", p.Set(0, value("\x01", "1")), api.ErrFit},
		{"Remove nowhere", p.Remove(22), api.ErrSlot},
		{"Remove nowhere", p.Remove(-1), api.ErrSlot},
	} {
		same(t, x.what, x.got, x.want)
	}
	stands(t, "behind all refusals", p, l)
	same(t, "Set of one that has just room", p.Set(21, value("\xf0", long(last))), api.OK)
	same(t, "Set of a shorter one", p.Set(21, value("\xf0", long(last-6))), api.OK)
	same(t, "Insert of one that has just room", p.Insert(22, value("\xf1", "")), api.OK)
	same(t, "Used", p.Used(), 512)
}

// P7.7, P7.8: a page that is filled to its last byte, and one byte more, anywhere in it, at every size.
func TestFullPages(t *testing.T) {
	for _, page := range sizes() {
		for _, kind := range kinds() {
			cells := few(kind, page, page)
			tooLong := 0
			for at, c := range cells {
				rest := slices.Delete(slices.Clone(cells), at, at+1)
				p, l := filled(t, kind, page, rest...)
				longer := stretched(row(c), 1)[0]
				if mayBe(kind, page, longer) {
					tooLong++
					same(t, "Insert of a byte too many", p.Insert(at, longer), api.ErrFit)
					stands(t, "with room still", p, l)
				}
				same(t, "Insert of what has just room", p.Insert(at, c), api.OK)
				l.insert(at, c)
				stands(t, "full", p, l)
				if mayBe(kind, page, longer) {
					same(t, "Set of a byte too many", p.Set(at, longer), api.ErrFit)
					stands(t, "full still", p, l)
				}
				same(t, "Set of the same", p.Set(at, c), api.OK)
				l.set(at, c)
				stands(t, "full anew", p, l)
				same(t, "Remove", p.Remove(at), api.OK)
				l.remove(at)
				stands(t, "with room", p, l)
			}
			if tooLong == 0 {
				t.Error("no cell could be made longer")
			}
		}
	}
}

// P7.8: one kind of cell in the place of another.
func TestSetOfOtherKinds(t *testing.T) {
	kindsOf := row(value("k", ""), value("k", long(96)), spill("k", 2, 97), tree("k", 0, 0), tree("k", 65535, 1<<30))
	for _, a := range kindsOf {
		for _, b := range kindsOf {
			p, l := filled(t, api.PageLeaf, 512, value("a", "1"), a, value("z", "2"))
			same(t, "Set", p.Set(1, b), api.OK)
			same(t, "Set in the list", l.set(1, b), api.OK)
			stands(t, "Set", p, l)
		}
	}
}

// P7.9: removed from either end, and from within, until none is left.
func TestRemoveAll(t *testing.T) {
	for _, kind := range kinds() {
		for _, which := range []func(n int) int{func(n int) int { return 0 }, func(n int) int { return n - 1 }, func(n int) int { return n / 2 }} {
			for _, in := range []func(*testing.T, int, int, ...api.Cell) (*packed.Page, *list){filled, opened} {
				p, l := in(t, kind, 512, rowOf(kind, 12)...)
				for len(l.cells) > 0 {
					i := which(len(l.cells))
					l.remove(i)
					same(t, "Remove", p.Remove(i), api.OK)
					stands(t, "Remove", p, l)
				}
				stands(t, "empty", p, anew(kind, 512, nil))
				same(t, "Remove of none", p.Remove(0), api.ErrSlot)
				same(t, "Insert behind all that", p.Insert(0, rowOf(kind, 1)[0]), api.OK)
				l.insert(0, rowOf(kind, 1)[0])
				stands(t, "Insert behind all that", p, l)
			}
		}
	}
}
