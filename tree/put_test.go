package tree_test

import (
	"fmt"
	"maps"
	"math"
	"slices"
	"strings"
	"testing"

	"espalier/api"
	"espalier/node"
	"espalier/tree"
)

// refused holds a Put against an error: all else is zero, and nothing was asked but what may be.
func refused(t *testing.T, what string, s *shelf, root int, c api.Cell, want api.Errno) {
	t.Helper()
	s.acts = nil
	to, old, is, e := tree.Put(s, root, c)
	same(t, what, e, want)
	same(t, what+": the root", to, 0)
	sameCell(t, what, old, api.Cell{})
	same(t, what+": there before", is, false)
	for _, a := range s.acts {
		if a.what != "read" && a.what != "spare" {
			t.Errorf("%s: the room was asked to %s %d", what, a.what, a.page)
		}
	}
}

// P12.7: keys and values of every length about what may be, at every size.
func TestLengths(t *testing.T) {
	for _, engine := range engines() {
		for _, size := range []int{512, 1024, 2048, 4096, 8192, 16384, 32768, 65536} {
			key, val := size/8, size*3/16
			for _, root := range []int{0, 9} {
				s := newShelf(engine, size, 100)
				s.leaf(t, 9, "m")
				for _, c := range row(value("", ""), value(long(key+1), ""), value(long(2*key), ""), value(long(100000), ""), value("k", long(val+1)), value("k", long(2*val)), value("m", long(100000)), value("", long(val+1)), spill("", 2, val+1), spill(long(key+1), 2, val+1), named("", 0, 0), named(long(key+1), 0, 0), lead("", 2, 1), lead(long(key+1), 2, 1), api.Cell{}) {
					refused(t, fmt.Sprintf("%d: a key of %d, a value of %d", size, len(c.Key), len(c.Value)), s, root, c, api.ErrSize)
					same(t, "asks", len(s.acts), 0)
				}
				g := planted(t, fmt.Sprint("lengths, ", size), s)
				s.leaf(t, 9, "m")
				if root != 0 {
					g.root, g.cells = 9, values("m")
					g.is, _ = s.good(9)
				}
				for _, c := range row(value("a", ""), value(long(key), long(val)), value("y", long(val)), value("z"+long(key-1), ""), value(string(rune(1)), ""), spill("z"+long(key-2), 2, val+1)) {
					g.put(c)
				}
				g.all()
			}
		}
	}
}

// mayNotBe are cells that may not be in a leaf, their keys and values being as long as they may.
func mayNotBe() []api.Cell {
	l := row(lead("k", 2, 1), lead(long(64), 65535, 1), api.Cell{Key: []byte("k")}, api.Cell{Key: []byte("k"), Value: []byte("v")})
	for _, kind := range []int{math.MinInt, -1, 0, 5, 6, 257, 258, 1<<32 + 1, math.MaxInt} {
		l = append(l, api.Cell{Key: []byte("k"), Kind: kind}, api.Cell{Key: []byte("k"), Kind: kind, Value: []byte(long(97))}, api.Cell{Key: []byte("k"), Kind: kind, Page: 2, Count: 100})
	}
	for _, page := range []int{math.MinInt, -1, 0, 1, 65536, 1<<32 + 2, math.MaxInt} {
		l = append(l, spill("k", page, 97), named("k", page, 1), api.Cell{Key: []byte("k"), Kind: api.CellValue, Page: max(page, 2)})
	}
	for _, count := range []int{math.MinInt, -1, 0, 1<<30 + 1, 1<<32 + 1, math.MaxInt} {
		l = append(l, spill("k", 2, count), named("k", 2, count), api.Cell{Key: []byte("k"), Kind: api.CellValue, Count: max(count, 1)})
	}
	for _, count := range []int{1, 95, 96, 65537} {
		l = append(l, spill("k", 2, count))
	}
	for _, v := range []string{"v", long(96), long(97), long(1000)} {
		s, n := spill("k", 2, 97), named("k", 2, 1)
		s.Value, n.Value = []byte(v), []byte(v)
		l = append(l, s, n)
	}
	return append(l, named("k", 0, 1), named("k", 2, 0))
}

// P12.7: cells that may not be in a leaf.
func TestCellsThatMayNotBe(t *testing.T) {
	for _, engine := range engines() {
		s := newShelf(engine, 512, 100)
		s.leaf(t, 9, "k", "l")
		for i, c := range mayNotBe() {
			for _, root := range []int{0, 9} {
				refused(t, fmt.Sprintf("cell %d, %+v", i, c), s, root, c, api.ErrCell)
				same(t, "asks", len(s.acts), 0)
			}
		}
	}
}

// P12.7, R5: ErrSize, ErrCell, the error of Height, ErrFull, in this order.
func TestWhichErrorOfPutIsFirst(t *testing.T) {
	for _, engine := range engines() {
		s := newShelf(engine, 512, 100)
		s.spare = 0
		s.held[8] = make([]byte, 512)
		s.leaf(t, 9, "m")
		s.branch(t, 7, lead("", 50, 1), lead("b", 9, 1))
		refused(t, "all four", s, 50, lead("", 50, 0), api.ErrSize)
		refused(t, "a long key of no kind", s, 50, api.Cell{Key: []byte(long(65))}, api.ErrSize)
		refused(t, "a long value with a page", s, 50, api.Cell{Key: []byte("k"), Kind: api.CellValue, Value: []byte(long(97)), Page: 1}, api.ErrSize)
		refused(t, "a child, no root, no room", s, 50, lead("k", 2, 1), api.ErrCell)
		refused(t, "a child, a bad root, no room", s, 8, lead("k", 2, 1), api.ErrCell)
		refused(t, "no root, no room", s, 50, value("k", "v"), api.ErrPage)
		refused(t, "a bad root, no room", s, 8, value("k", "v"), api.ErrTree)
		refused(t, "the way of the empty key, no room", s, 7, value("k", "v"), api.ErrPage)
		refused(t, "no room", s, 9, value("k", "v"), api.ErrFull)
		refused(t, "no room for the first", s, 0, value("k", "v"), api.ErrFull)
		refused(t, "no room, where it stands already", s, 9, value("m", "v"), api.ErrFull)
		s.spare = 1 << 40
		refused(t, "the way of the empty key", s, 7, value("k", "v"), api.ErrPage)
	}
}

// P12.7, P12.8: Spare is asked of Need of the height, and what it says counts, by one page.
func TestSpareByOnePage(t *testing.T) {
	for _, engine := range engines() {
		for _, g := range shapes(t, engine, 512) {
			for short := range 3 {
				s := g.room.copied(false)
				s.spare = tree.Need(g.is.levels) - short
				want := api.OK
				if short > 0 {
					want = api.ErrFull
				}
				before := fmt.Sprint(s.held)
				root, _, _, e := tree.Put(s, g.root, value("new", ""))
				same(t, g.what+": Put", e, want)
				sameList(t, g.what+": Spare is asked", s.asked("spare", 0), []int{tree.Need(g.is.levels)})
				if short > 0 {
					same(t, g.what+": the root", root, 0)
					same(t, g.what+": nothing has changed", fmt.Sprint(s.held), before)
				}
				s = g.room.copied(false)
				s.spare = tree.Need(g.is.levels) - short
				// What is not there needs no room.
				root, _, is, e := tree.Delete(s, g.root, []byte("new"))
				same(t, g.what+": Delete of none", e, api.OK)
				same(t, g.what+": Delete of none", is, false)
				same(t, g.what+": Delete of none", root, g.root)
				same(t, g.what+": Spare is not asked", len(s.asked("spare", 0)), 0)
				if len(g.cells) == 0 {
					continue
				}
				root, old, is, e := tree.Delete(s, g.root, g.cells[0].Key)
				same(t, g.what+": Delete", e, want)
				same(t, g.what+": Delete", is, short == 0)
				sameList(t, g.what+": Spare is asked", s.asked("spare", 0), []int{tree.Need(g.is.levels)})
				if short > 0 {
					same(t, g.what+": the root", root, 0)
					sameCell(t, g.what+": the cell", old, api.Cell{})
					same(t, g.what+": nothing has changed", fmt.Sprint(s.held), before)
				}
			}
		}
	}
}

// P12.7, P12.8: benches of just as many pages as are asked for, and of one less.
func TestBenchesOfFewPages(t *testing.T) {
	for _, engine := range engines() {
		for pages := 2; pages < 12; pages++ {
			r := bench(t, engine, 512, pages)
			root, _, _, e := tree.Put(r, 0, value("a", ""))
			if pages < 6 {
				same(t, "the first", e, api.ErrFull)
				same(t, "pages taken", len(r.Taken()), 0)
				continue
			}
			same(t, "the first", e, api.OK)
			want := api.OK
			if pages < 10 {
				want = api.ErrFull
			}
			_, _, _, e = tree.Put(r, root, value("b", ""))
			same(t, "the second", e, want)
			_, _, is, e := tree.Delete(r, root, []byte("a"))
			same(t, "Delete", e, want)
			same(t, "Delete", is, want == api.OK)
		}
	}
}

// orders are keys in rising, falling and mixed order.
func orders(keys []string) map[string][]string {
	down := slices.Clone(keys)
	slices.Reverse(down)
	mixed := slices.Clone(keys)
	chance().Shuffle(len(mixed), func(i, j int) { mixed[i], mixed[j] = mixed[j], mixed[i] })
	inward := make([]string, 0, len(keys))
	for i, j := 0, len(keys)-1; i <= j; i, j = i+1, j-1 {
		inward = append(inward, keys[i])
		if i < j {
			inward = append(inward, keys[j])
		}
	}
	return map[string][]string{"rising": keys, "falling": down, "mixed": mixed, "from both ends": inward}
}

// sorts are rows of rising keys that pages of 512 bytes and more take, unlike in what they share.
func sorts(n int) map[string][]string {
	l := map[string][]string{}
	for i := range n {
		l["short"] = append(l["short"], fmt.Sprintf("%04d", i))
		l["long alike"] = append(l["long alike"], strings.Repeat("s", 60)+fmt.Sprintf("%04d", i))
		l["long unlike"] = append(l["long unlike"], fmt.Sprintf("%04d", i)+long(60))
		// Each begins the next ones, as long as there are so many bytes.
		l["beginnings"] = append(l["beginnings"], fmt.Sprintf("%03d", i/60)+long(i%60))
	}
	return l
}

// P12.7, P12.9: cells put in every order, in both engines, in pages of several sizes, fresh or not; then all of them put once more.
func TestPutInEveryOrder(t *testing.T) {
	for _, engine := range engines() {
		for _, size := range []int{512, 1024, 4096} {
			for sort, keys := range sorts(120) {
				for order, keys := range orders(keys) {
					if size > 1024 && order != "mixed" {
						continue
					}
					what := fmt.Sprintf("engine %d, %d bytes, %s, %s", engine, size, sort, order)
					s := newShelf(engine, size, 60000)
					g := planted(t, what, s)
					for i, key := range keys {
						g.put(value(key, long(i*37%97)))
						if i%3 == 0 {
							s.settle()
						}
					}
					for i, key := range keys {
						g.put(value(key, long(96-i*37%97)))
						if i%5 == 0 {
							s.settle()
						}
					}
					if order == "mixed" {
						g.all()
					}
					same(t, what+": more than one page", size > 1024 || g.most.pages > 8, true)
				}
			}
		}
	}
}

// P12.7, P12.9: a Put that changes nothing above the leaf leaves the fresh pages above it as they are; pages that are not fresh are copied on the whole way, and no others.
func TestWhatIsWritten(t *testing.T) {
	for _, engine := range engines() {
		for _, fresh := range []bool{true, false} {
			laid := newShelf(engine, 512, 400)
			root, _ := threeLevels(t, laid)
			s := laid.copied(fresh)
			to, old, is, e := tree.Put(s, root, value("c", "new"))
			same(t, "Put", e, api.OK)
			same(t, "Put", is, true)
			sameCell(t, "Put", old, value("c", "c"))
			same(t, "Get", getOf(s, to, "c"), "0 c:new")
			if fresh {
				same(t, "the root", to, root)
				sameList(t, "written", s.asked("write", 0), []int{11})
				same(t, "taken, given back", len(s.asked("alloc", 0))+len(s.asked("free", 0)), 0)
				continue
			}
			same(t, "taken", len(s.asked("alloc", 0)), 3)
			given := s.asked("free", 0)
			slices.Sort(given)
			sameList(t, "given back", given, []int{2, 11, 20})
			sameList(t, "written", s.asked("write", 0), s.asked("alloc", 0))
		}
	}
}

// P12.9: pages are given back when all are taken and written, so that none of them is taken in the same change.
func TestNothingIsTakenAgain(t *testing.T) {
	for _, engine := range engines() {
		for _, g := range shapes(t, engine, 512) {
			for _, fresh := range []bool{true, false} {
				for _, c := range g.cells {
					s := g.room.copied(fresh)
					tree.Delete(s, g.root, c.Key)
					given := false
					for _, a := range s.acts {
						given = given || a.what == "free"
						if given && a.what != "free" {
							t.Errorf("%s: %s %d behind a page that was given back", g.what, a.what, a.page)
						}
					}
				}
			}
		}
	}
}

// P12.7: in a branch of the engine Packed a page's number and a count take as many bytes as they need: where these grow, a branch may be too full though no child was added.
func TestNumbersThatGrow(t *testing.T) {
	s := newShelf(api.Packed, 512, 65536)
	g := planted(t, "numbers that grow", s)
	s.pick = risingPage(2)
	for i := range 1000 {
		g.put(value(fmt.Sprintf("%05d", i*7), ""))
	}
	levels := g.is.levels
	for _, from := range []int{2, 100, 16300, 30000, 65000} {
		s.pick = risingPage(from)
		for i := range 60 {
			g.put(value(fmt.Sprintf("%05d", i*7*16), "v"))
			s.settle()
			if slices.Max(slices.Collect(maps.Keys(s.held))) > 65400 {
				break
			}
		}
	}
	g.all()
	same(t, "levels", g.is.levels >= levels, true)
}

// fullBranch is a branch of as many like cells as fit, each leading to a leaf of two cells, on pages from 100 on: its page is 2.
func fullBranch(t *testing.T, s *shelf, sep func(i int) string) *garden {
	var leads, cells []api.Cell
	for i := 0; ; i++ {
		key := sep(i)
		l := lead(key, 100+i, 2)
		if i == 0 {
			l.Key = nil
		}
		if !node.Fits(s.engine, api.PageBranch, append(leads, l), s.size) {
			break
		}
		leads = append(leads, l)
		two := row(value(key+"a", ""), value(key+"b", ""))
		cells = append(cells, two...)
		s.lay(t, 100+i, api.PageLeaf, two...)
	}
	s.lay(t, 2, api.PageBranch, leads...)
	g := planted(t, fmt.Sprintf("a full branch, engine %d, %d bytes", s.engine, s.size), s)
	g.root, g.cells = 2, cells
	is, fault := s.good(2)
	if fault != "" {
		t.Fatal(fault)
	}
	g.is = is
	return g
}

// P12.7, P12.9: a branch that is just full is cut when a leaf below it is, at every place.
func TestFullBranches(t *testing.T) {
	for _, engine := range engines() {
		for _, size := range []int{512, 1024} {
			for _, fresh := range []bool{true, false} {
				for _, at := range []int{0, 1, 2, 9, 33} {
					for _, stem := range []string{"", long(40)} {
						s := newShelf(engine, size, 60000)
						g := fullBranch(t, s, func(i int) string { return stem + string([]byte{byte(i + 1)}) })
						for n := range s.held {
							s.fresh[n] = fresh
						}
						leaf := at % (len(g.is.pages) - 1)
						for i := range 30 {
							g.put(value(stem+string([]byte{byte(leaf + 1)})+fmt.Sprintf("ab%02d", i), long(96)))
						}
						same(t, g.what+": levels", g.is.levels, 3)
					}
				}
			}
		}
	}
}
