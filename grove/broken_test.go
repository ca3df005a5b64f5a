package grove_test

import (
	"fmt"
	"math"
	"testing"

	"espalier/api"
	"espalier/grove"
	"espalier/spill"
)

// Of what is no good grove no call may read more pages than this: the rooms of these tests have far fewer, and no page is needed often.
const mostActs = 100000

// looksEnd: whatever the grove is, looks end without a panic, answer zero values beside errors, and ask for nothing but reads.
func looksEnd(t *testing.T, what string, s *shelf, root, count int, names, keys []string) {
	t.Helper()
	image := s.image()
	g := grove.Open(s, root, count)
	r, n := g.Root()
	same(t, what+": Root", r, root)
	same(t, what+": Root", n, count)
	l, e := g.Names()
	zero(t, what+": Names", e, len(l) > 0)
	for _, name := range names {
		r, n, e := g.Tree(name)
		zero(t, what+": Tree", e, r != 0 || n != 0)
		n, e = g.Len(name)
		zero(t, what+": Len", e, n != 0)
		for _, key := range keys {
			v, is, e := g.Get(name, []byte(key))
			zero(t, what+": Get", e, is || len(v) > 0)
			n, e := g.Rank(name, []byte(key))
			zero(t, what+": Rank", e, n != 0)
		}
		for _, i := range []int{math.MinInt, -1, 0, 1, 2, 7, 1000, math.MaxInt} {
			p, is, e := g.At(name, i)
			zero(t, what+": At", e, is || asPair(p) != pair{})
		}
		for _, reverse := range []bool{false, true} {
			for _, lo := range []string{"", "k", "z"} {
				for _, hi := range []string{"", "kz"} {
					rangeEnds(t, what+": Scan", g, name, lo, hi, reverse)
				}
			}
		}
	}
	s.justLooked(t, what, 0)
	same(t, what+": it ends soon", len(s.acts) < mostActs, true)
	same(t, what+": the pages", s.image() == image, true)
	if t.Failed() {
		t.FailNow()
	}
}

func zero(t *testing.T, what string, e api.Errno, is bool) {
	if e != api.OK && is {
		t.Helper()
		t.Errorf("%s: something beside the error %d", what, e)
	}
}

func rangeEnds(t *testing.T, what string, g *grove.Grove, name, lo, hi string, reverse bool) {
	t.Helper()
	all := g.Scan(name, []byte(lo), []byte(hi), reverse)
	if all == nil {
		t.Fatalf("%s: nil", what)
	}
	errs := 0
	for p, e := range all {
		zero(t, what, e, asPair(p) != pair{})
		same(t, what+": behind an error nothing is told", errs, 0)
		if e != api.OK {
			errs++
		}
	}
	for range all {
		break
	}
}

// changesEnd: whatever the grove is, changes end without a panic, and answer zero values beside errors.
func changesEnd(t *testing.T, what string, laid *shelf, root, count int, names, keys []string) {
	t.Helper()
	try := func(call string, do func(g *grove.Grove) (int, api.Errno)) {
		t.Helper()
		s := laid.copied()
		n, e := do(grove.Open(s, root, count))
		zero(t, what+": "+call, e, n != 0)
		same(t, what+": "+call+": it ends soon", len(s.acts) < mostActs, true)
	}
	for _, name := range names {
		try("Make", func(g *grove.Grove) (int, api.Errno) { return 0, g.Make(name) })
		try("Drop", func(g *grove.Grove) (int, api.Errno) { return 0, g.Drop(name) })
		try("Load", func(g *grove.Grove) (int, api.Errno) { return g.Load(name, tells(numbered(3, 120)...).all()) })
		try("Load of none", func(g *grove.Grove) (int, api.Errno) { return g.Load(name, nil) })
		for _, key := range keys {
			try("Put", func(g *grove.Grove) (int, api.Errno) { return asInt(g.Put(name, []byte(key), []byte("v"))) })
			try("Put of a long one", func(g *grove.Grove) (int, api.Errno) {
				return asInt(g.Put(name, []byte(key), []byte(long(700, 'l'))))
			})
			try("Delete", func(g *grove.Grove) (int, api.Errno) { return asInt(g.Delete(name, []byte(key))) })
			try("many", func(g *grove.Grove) (int, api.Errno) {
				for i := range 12 {
					g.Put(name, []byte(fmt.Sprint(key, i)), []byte(long(i*20, 'm')))
					g.Delete(name, []byte(key))
					g.Make(fmt.Sprint(i))
				}
				return 0, g.Drop(name)
			})
		}
	}
	if t.Failed() {
		t.FailNow()
	}
}

var brokenKeys = []string{"", "\x00", "k", "k00004", "s07", "\xff"}

// A root, or a count, that is none; a root that is another page of a grove.
func TestOtherRoots(t *testing.T) {
	for _, engine := range engines() {
		g := stocked(t, "roots", newShelf(engine, 512))
		root, count := g.g.Root()
		roots := append([]int{0, 1, -1, math.MinInt, math.MaxInt, 65535, 65536, 1 << 40}, g.is.pages...)
		for _, r := range roots {
			for _, n := range []int{count, 0, -1, 1, 256, 257, math.MinInt, math.MaxInt} {
				if r == root && n == count {
					continue
				}
				what := fmt.Sprint("root ", r, ", count ", n, ", engine ", engine)
				looksEnd(t, what, g.room.copied(), r, n, []string{"a", "b", "", "x", "k"}, brokenKeys)
				if n == count || n < 0 || r == root {
					changesEnd(t, what, g.room, r, n, []string{"a", "b", "x"}, brokenKeys[2:4])
				}
			}
		}
	}
}

// Pages that are lost, are other ones, or have other bytes.
func TestSpoiltPages(t *testing.T) {
	t.Parallel()
	for _, engine := range engines() {
		g := stocked(t, "spoilt", newShelf(engine, 512))
		root, count := g.g.Root()
		r := chance()
		for i, page := range g.is.pages {
			for kind := range 7 {
				s := g.room.copied()
				b := s.held[page]
				switch kind {
				case 0:
					delete(s.held, page)
				case 1:
					s.held[page] = make([]byte, 512)
				case 2:
					b[r.Intn(512)] ^= 1 << r.Intn(8)
				case 3:
					s.held[page] = s.held[g.is.pages[(i+1+r.Intn(len(g.is.pages)-1))%len(g.is.pages)]]
				case 4:
					s.held[page] = b[:r.Intn(512)]
				case 5:
					s.held[page] = s.held[root]
				case 6:
					s.held[page] = append(b, make([]byte, 512)...)
				}
				what := fmt.Sprint("page ", page, " spoilt, kind ", kind, ", engine ", engine)
				names := []string{"a", "b", "x"}
				looksEnd(t, what, s.copied(), root, count, names, brokenKeys)
				changesEnd(t, what, s, root, count, names, brokenKeys[2:5])
			}
		}
	}
}

// ladder lays branches one below the other, each of which leads to the next one many times; from page at on.
func ladder(t *testing.T, s *shelf, at, rungs int, end ...api.Cell) {
	t.Helper()
	for i := range rungs {
		s.lay(t, at+i, api.PageBranch, lead("", at+i+1, 1<<20), lead("b", at+i+1, 1<<20), lead("c", at+i+1, 1<<20))
	}
	s.lay(t, at+rungs, api.PageLeaf, end...)
}

// Trees that lead to a page over and over: so few pages, and ever so many cells.
func TestLadders(t *testing.T) {
	t.Parallel()
	for _, engine := range engines() {
		for _, rungs := range []int{1, 5, 20, 39, 40, 41, 60} {
			s := newShelf(engine, 512)
			s.lay(t, 2, api.PageLeaf, tree("a", 10, 1<<30), tree("b", 200, 3), tree("k", 300, 5))
			ladder(t, s, 10, rungs, value("a", "1"), value("k", "2"))
			ladder(t, s, 300, rungs, value("k", "alone in its leaf"))
			ladder(t, s, 100, rungs, tree("a", 10, 1<<30), tree("k", 0, 0))
			what := fmt.Sprint("a ladder of ", rungs, ", engine ", engine)
			names := []string{"a", "b", "k"}
			looksEnd(t, what, s.copied(), 2, 2, names, brokenKeys)
			changesEnd(t, what, s, 2, 2, names, brokenKeys)
			looksEnd(t, what+", as the catalog", s.copied(), 100, 2, names, brokenKeys)
			changesEnd(t, what+", as the catalog", s, 100, 2, names, brokenKeys)
		}
	}
}

// Cells that may not be there, rings, chains that are none or shared, counts that are wrong, pages that stand in two places.
func TestOtherPages(t *testing.T) {
	t.Parallel()
	for _, engine := range engines() {
		for i, lay := range []func(s *shelf){
			func(s *shelf) { s.lay(t, 2, api.PageLeaf, value("a", "no tree"), spilled("b", 5, 100)) },
			func(s *shelf) { s.lay(t, 2, api.PageLeaf, tree("A", 0, 0), tree("a", 2, 1), tree("b", 2, 9)) },
			func(s *shelf) { s.lay(t, 2, api.PageLeaf) },
			func(s *shelf) { s.lay(t, 2, api.PageBranch) },
			func(s *shelf) { s.lay(t, 2, api.PageBranch, lead("", 2, 1), lead("b", 2, 1)) },
			func(s *shelf) {
				s.lay(t, 2, api.PageLeaf, tree("a", 3, 7), tree("b", 3, 1), tree("c", 4, 1<<30))
				s.lay(t, 3, api.PageLeaf, tree("k", 2, 3), value("l", ""))
				s.lay(t, 4, api.PageLeaf, value("k", ""))
			},
			func(s *shelf) {
				s.lay(t, 2, api.PageLeaf, tree("a", 3, 2), tree("b", 4, 9))
				s.lay(t, 3, api.PageLeaf, spilled("k", 8, 500), spilled("k00004", 8, 500), spilled("l", 9, 200))
				s.lay(t, 4, api.PageLeaf, spilled("k", 2, 97), spilled("k00004", 4, 65536))
				chain(t, s, 8, 9, 496)
				chain(t, s, 9, 8, 4)
			},
			func(s *shelf) {
				s.lay(t, 2, api.PageLeaf, tree("a", 3, 2), tree("b", 3, 2))
				s.lay(t, 3, api.PageLeaf, spilled("k", 8, 500), spilled("k00004", 8, 500))
				chain(t, s, 8, 9, 496)
				chain(t, s, 9, 0, 4)
			},
			func(s *shelf) {
				s.lay(t, 2, api.PageBranch, lead("", 3, 1), lead("b", 4, 1))
				s.lay(t, 3, api.PageLeaf, tree("b", 4, 1))
				s.lay(t, 4, api.PageLeaf, tree("a", 3, 1), value("k", ""))
			},
			func(s *shelf) {
				s.lay(t, 2, api.PageLeaf, tree("a", 3, 2), tree("b", 5, 2))
				s.lay(t, 3, api.PageBranch, lead("", 4, 1))
				s.lay(t, 4, api.PageBranch, lead("", 5, 1))
				s.lay(t, 5, api.PageLeaf)
			},
			func(s *shelf) {
				s.lay(t, 2, api.PageLeaf, tree("a", 3, 1<<30))
				s.lay(t, 3, api.PageLeaf, value("k", "v"))
			},
		} {
			s := newShelf(engine, 512)
			s.left = 300
			lay(s)
			for n := range s.held {
				s.fresh[n] = true
			}
			what := fmt.Sprint("pages ", i, ", engine ", engine)
			names := []string{"a", "b", "c", "A", "k", "", "x"}
			looksEnd(t, what, s.copied(), 2, 2, names, brokenKeys)
			changesEnd(t, what, s, 2, 2, names, brokenKeys)
			changesEnd(t, what+", settled", s.settled(), 2, 2, names, brokenKeys)
		}
	}
}

func chain(t *testing.T, s *shelf, page, next, n int) {
	t.Helper()
	b, e := spill.Encode(next, []byte(long(n, 'c')), 512)
	if e != api.OK {
		t.Fatalf("no page of a chain: %d", e)
	}
	s.held[page] = b
}

// A catalog of more names than there may be ends, too.
func TestTooManyNames(t *testing.T) {
	for _, engine := range engines() {
		s := newShelf(engine, 512)
		h := planted(t, "too many", s)
		for i := range 256 {
			h.g.Make(fmt.Sprintf("%03d", i))
		}
		root, _ := h.g.Root()
		// With a count that is too low there is room for more.
		g := grove.Open(s, root, 3)
		for i := range 200 {
			g.Make(fmt.Sprintf("more-%03d", i))
		}
		root, n := g.Root()
		looksEnd(t, "too many names", s.copied(), root, n, []string{"000", "more-001", "x"}, brokenKeys)
	}
}
