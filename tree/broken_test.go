package tree_test

import (
	"bytes"
	"fmt"
	"math"
	"math/rand"
	"testing"

	"espalier/api"
	"espalier/free"
	"espalier/meta"
	"espalier/node"
	spilled "espalier/spill"
	"espalier/tree"
)

// look is one of those that read a root; it tells the error, and whether all else is zero.
type look struct {
	what string
	do   func(r api.Room, root int) (api.Errno, bool)
}

func allLooks() []look {
	return []look{
		{"Get", func(r api.Room, root int) (api.Errno, bool) {
			c, is, e := tree.Get(r, root, []byte("k"))
			return e, alike(c, api.Cell{}) && !is
		}},
		{"Rank", func(r api.Room, root int) (api.Errno, bool) {
			n, e := tree.Rank(r, root, []byte("k"))
			return e, n == 0
		}},
		{"At", func(r api.Room, root int) (api.Errno, bool) {
			c, is, e := tree.At(r, root, 0)
			return e, alike(c, api.Cell{}) && !is
		}},
		{"Height", func(r api.Room, root int) (api.Errno, bool) {
			n, e := tree.Height(r, root)
			return e, n == 0
		}},
		{"Pages", func(r api.Room, root int) (api.Errno, bool) {
			l, e := tree.Pages(r, root)
			return e, len(l) == 0
		}},
		{"Drop", func(r api.Room, root int) (api.Errno, bool) { return tree.Drop(r, root), true }},
		{"Len", func(r api.Room, root int) (api.Errno, bool) {
			n, e := tree.Len(r, root)
			return e, n == 0
		}},
		{"Put", func(r api.Room, root int) (api.Errno, bool) {
			root, c, is, e := tree.Put(r, root, value("k", ""))
			return e, root == 0 && alike(c, api.Cell{}) && !is
		}},
		{"Delete", func(r api.Room, root int) (api.Errno, bool) {
			root, c, is, e := tree.Delete(r, root, []byte("k"))
			return e, root == 0 && alike(c, api.Cell{}) && !is
		}},
	}
}

// ends holds the looks (all, or but the last so many) at a root against an error, beside which all else is zero, and nothing was changed.
func ends(t *testing.T, what string, s *shelf, root int, want api.Errno, looks []look) {
	t.Helper()
	for _, l := range looks {
		s.acts = nil
		e, zero := l.do(s, root)
		same(t, fmt.Sprintf("%s: %s of %d", what, l.what, root), e, want)
		same(t, fmt.Sprintf("%s: %s of %d: zero beside the error", what, l.what, root), zero, true)
		same(t, fmt.Sprintf("%s: %s of %d: changes", what, l.what, root), len(s.asked("alloc", 0))+len(s.asked("write", 0))+len(s.asked("free", 0)), 0)
	}
}

// P12.1 to P12.5: a page that cannot be read, as a root and below one.
func TestPagesThatAreNotThere(t *testing.T) {
	for _, engine := range engines() {
		s := newShelf(engine, 512, 65536)
		for _, root := range []int{7, 1, -1, 65535, 65536, 1 << 40, math.MinInt, math.MaxInt} {
			ends(t, "no page", s, root, api.ErrPage, allLooks())
		}
		s.branch(t, 2, lead("", 9, 1), lead("z", 8, 1))
		s.leaf(t, 8, "z")
		ends(t, "no page below", s, 2, api.ErrPage, allLooks()[:6])
		s.branch(t, 3, lead("", 8, 1), lead("b", 9, 1))
		ends(t, "a page not there on the way for the key alone", s, 3, api.ErrPage, allLooks()[:2])
		same(t, "Height goes another way", errOf(tree.Height(s, 3)), api.OK)
		same(t, "At goes another way", atOf(s, 3, 0), "0 z:z")
		s.fail = 0
		ends(t, "the room's error", s, 2, ofTheRoom, allLooks())
		s.fail = 1
		ends(t, "the room's error below", s, 2, ofTheRoom, allLooks()[:6])
	}
}

func errOf[T any](_ T, e api.Errno) api.Errno { return e }

// noPages are bytes that are no page of a tree of that engine and size.
func noPages(t *testing.T, engine, size int) map[string][]byte {
	page := func(engine, kind, size int, cells ...api.Cell) []byte {
		b, e := node.Encode(engine, kind, cells, size)
		if e != api.OK {
			t.Fatalf("no page: %d", e)
		}
		return b
	}
	good := page(engine, api.PageLeaf, size, value("k", "v"))
	turned := bytes.Clone(good)
	turned[size/2] ^= 1
	chain, _ := spilled.Encode(0, []byte("k"), size)
	list, _ := free.Encode(0, []int{7}, size)
	head, _ := meta.Encode(api.Meta{Engine: engine, Page: size, High: 2})
	return map[string][]byte{
		"nothing": nil, "one byte": {2}, "zeros": make([]byte, size), "bytes FF": bytes.Repeat([]byte{0xff}, size), "a byte turned": turned,
		"a byte less": good[:size-1], "a byte more": append(bytes.Clone(good), 0), "half of it": good[:size/2], "twice": append(bytes.Clone(good), good...),
		"a page of twice as many bytes":        page(engine, api.PageLeaf, 2*size, value("k", "v")),
		"a branch of twice as many bytes":      page(engine, api.PageBranch, 2*size, lead("", 3, 1), lead("l", 3, 1)),
		"a leaf of the other engine":           page(3-engine, api.PageLeaf, size, value("k", "v")),
		"an empty leaf of the other engine":    page(3-engine, api.PageLeaf, size),
		"a branch of the other engine":         page(3-engine, api.PageBranch, size, lead("", 3, 1), lead("l", 3, 1)),
		"a branch without a cell":              page(engine, api.PageBranch, size),
		"an empty branch of the other engine":  page(3-engine, api.PageBranch, size),
		"a page of a chain":                    chain,
		"a page of a list":                     list,
		"a meta page":                          head,
		"a leaf with the other engine's byte":  append([]byte{2, byte(3 - engine)}, good[2:]...),
		"a leaf with the engine 0 as its byte": append([]byte{2, 0}, good[2:]...),
	}
}

// P12.1 to P12.5: pages that are none of a tree, as a root and below one.
func TestPagesThatAreNone(t *testing.T) {
	for _, engine := range engines() {
		for _, size := range []int{512, 4096, 32768} {
			for what, b := range noPages(t, engine, size) {
				s := newShelf(engine, size, 40)
				s.held[9] = b
				s.leaf(t, 3, "k")
				ends(t, what, s, 9, api.ErrTree, allLooks())
				s.branch(t, 2, lead("", 9, 1), lead("z", 3, 1))
				ends(t, what+", below", s, 2, api.ErrTree, allLooks()[:6])
				s.branch(t, 4, lead("", 2, 1), lead("z", 3, 1))
				ends(t, what+", far below", s, 4, api.ErrTree, allLooks()[:6])
			}
		}
	}
}

// P12.1, P12.4: a leaf without a cell can be read.
func TestALeafWithoutACell(t *testing.T) {
	for _, engine := range engines() {
		s := newShelf(engine, 512, 40)
		s.lay(t, 9, api.PageLeaf)
		looks(t, "an empty leaf", s, 9, nearKeys(values("k")), nearPlaces(2))
		s.branch(t, 2, lead("", 9, 7))
		looks(t, "an empty leaf below", s, 2, nearKeys(values("k")), nearPlaces(9))
		n, e := tree.Len(s, 2)
		same(t, "Len", n, 7)
		same(t, "Len", e, api.OK)
	}
}

// chain lays branches of one cell each, from page 2 on, and a leaf behind them: a way of so many pages.
func chain(t *testing.T, s *shelf, pages int) {
	for n := 2; n < pages+1; n++ {
		s.branch(t, n, lead("", n+1, 1))
	}
	s.leaf(t, pages+1, "k")
}

// P12.1 to P12.5: ways of 40 pages, and of more.
func TestLongWays(t *testing.T) {
	for _, engine := range engines() {
		s := newShelf(engine, 512, 100)
		for _, pages := range []int{1, 2, 38, 39, 40} {
			clear(s.held)
			chain(t, s, pages)
			looks(t, fmt.Sprint("a way of ", pages), s, 2, []string{"", "k", "z"}, nearPlaces(2))
			h, e := tree.Height(s, 2)
			same(t, "Height", h, pages)
			same(t, "Height", e, api.OK)
			same(t, "Get", getOf(s, 2, "k"), "0 k:k")
			same(t, "At", atOf(s, 2, 0), "0 k:k")
			l, _ := tree.Pages(s, 2)
			same(t, "Pages", len(l), pages)
		}
		for _, pages := range []int{41, 42, 43, 80} {
			clear(s.held)
			chain(t, s, pages)
			ends(t, fmt.Sprint("a way of ", pages), s, 2, api.ErrTree, allLooks()[:6])
			// It ends ahead of the 41st page: whatever that is does not matter.
			delete(s.held, 42)
			ends(t, "the 41st page not there", s, 2, api.ErrTree, allLooks()[:6])
			for _, l := range allLooks()[:6] {
				s.acts = nil
				l.do(s, 2)
				same(t, l.what+": pages read", len(s.acts), 40)
			}
			same(t, "the 40th cannot be read", errOf(tree.Height(s, 3)), api.ErrPage)
		}
		// Where the Counts say that there is no cell At does not go on.
		clear(s.held)
		chain(t, s, 41)
		same(t, "At", atOf(s, 2, 1), "0 none")
	}
}

// P12.1 to P12.5: branches that lead to themselves, or in a ring.
func TestRings(t *testing.T) {
	for _, engine := range engines() {
		s := newShelf(engine, 512, 100)
		s.branch(t, 7, lead("", 7, 1))
		ends(t, "to itself", s, 7, api.ErrTree, allLooks()[:6])
		s.branch(t, 7, lead("", 7, 2), lead("b", 7, 2))
		ends(t, "to itself twice", s, 7, api.ErrTree, allLooks()[:6])
		ends(t, "changes", s, 7, api.ErrTree, allLooks()[7:])
		s.branch(t, 7, lead("", 8, 1))
		s.branch(t, 8, lead("", 9, 1))
		s.branch(t, 9, lead("", 7, 1))
		ends(t, "a ring", s, 8, api.ErrTree, allLooks()[:6])
		n, e := tree.Len(s, 8)
		same(t, "Len", n, 1)
		same(t, "Len", e, api.OK)
		// A ring beside the way is not met, but by Pages.
		s.leaf(t, 3, "a", "b")
		s.branch(t, 2, lead("", 3, 2), lead("c", 2, 2))
		same(t, "beside the way", getOf(s, 2, "b"), "0 b:b")
		same(t, "on the way", getOf(s, 2, "c"), "error 120")
		same(t, "At beside it", atOf(s, 2, 1), "0 b:b")
		same(t, "At in it", atOf(s, 2, 2), "0 a:a")
		same(t, "Pages", errOf(tree.Pages(s, 2)), api.ErrTree)
		same(t, "Drop", tree.Drop(s, 2), api.ErrTree)
		same(t, "Height", errOf(tree.Height(s, 2)), api.OK)
	}
}

// P12.5: a page that is reached twice.
func TestPagesReachedTwice(t *testing.T) {
	for _, engine := range engines() {
		s := newShelf(engine, 512, 100)
		s.leaf(t, 3, "a", "b")
		s.leaf(t, 4, "d", "e")
		s.branch(t, 5, lead("", 3, 2), lead("c", 3, 2))
		s.branch(t, 6, lead("", 3, 2), lead("c", 4, 2))
		s.branch(t, 8, lead("", 4, 2), lead("f", 9, 2))
		s.leaf(t, 9, "g", "h")
		s.branch(t, 2, lead("", 6, 4), lead("dd", 8, 4))
		for root, want := range map[int][]int{5: {3}, 6: {3, 4, 6}, 2: {4}} {
			l, e := tree.Pages(s, root)
			if root == 6 {
				sameList(t, "Pages of a good one", l, want)
				continue
			}
			same(t, "Pages", e, api.ErrTree)
			same(t, "pages beside the error", len(l), 0)
			same(t, "Drop", tree.Drop(s, root), api.ErrTree)
			// What looks at one way does not mind.
			same(t, "Get", errOf(tree.Height(s, root)), api.OK)
		}
	}
}

// P12.5, R5: of several errors the one is told that is met first.
func TestWhichErrorIsFirst(t *testing.T) {
	for _, engine := range engines() {
		s := newShelf(engine, 512, 100)
		s.leaf(t, 3, "a", "b")
		s.held[9] = make([]byte, 512)
		for _, x := range []struct {
			what  string
			leads []api.Cell
			want  api.Errno
			read  []int
		}{
			{"lost, reached twice", row(lead("", 3, 1), lead("b", 50, 1), lead("c", 3, 1)), api.ErrPage, []int{2, 3, 50}},
			{"reached twice, lost", row(lead("", 3, 1), lead("b", 3, 1), lead("c", 50, 1)), api.ErrTree, []int{2, 3}},
			{"lost, none", row(lead("", 50, 1), lead("b", 9, 1)), api.ErrPage, []int{2, 50}},
			{"none, lost", row(lead("", 9, 1), lead("b", 50, 1)), api.ErrTree, []int{2, 9}},
			{"lost twice", row(lead("", 50, 1), lead("b", 50, 1)), api.ErrPage, []int{2, 50}},
			{"the root, lost", row(lead("", 2, 1), lead("b", 50, 1)), api.ErrTree, []int{2}},
			{"lost below, lost beside", row(lead("", 10, 1), lead("b", 9, 1)), api.ErrPage, []int{2, 10, 3, 50}},
			{"too deep, lost", row(lead("", 11, 1), lead("b", 50, 1)), api.ErrTree, nil},
			{"lost, too deep", row(lead("", 50, 1), lead("b", 11, 1)), api.ErrPage, []int{2, 50}},
		} {
			s.branch(t, 10, lead("", 3, 1), lead("b", 50, 1))
			for n := 11; n < 50; n++ {
				s.branch(t, n, lead("", n+1, 1))
			}
			s.branch(t, 2, x.leads...)
			s.acts = nil
			same(t, x.what, errOf(tree.Pages(s, 2)), x.want)
			if x.read != nil {
				sameList(t, x.what+": pages read", s.asked("read", 0), x.read)
			}
			same(t, x.what+": Drop", tree.Drop(s, 2), x.want)
		}
	}
}

// anyShelf is a shelf on which pages of all sorts lead to each other at will.
func anyShelf(t *testing.T, r *rand.Rand) *shelf {
	s := newShelf(1+r.Intn(2), 512, 200)
	pages := 3 + r.Intn(10)
	key := func(i int) string { return []string{"", "a", "b", "ba", "c", "m", "ma", "mb", "z"}[i] }
	for n := 2; n < 2+pages; n++ {
		var cells []api.Cell
		isLeaf := r.Intn(2) == 0
		for i := range 9 {
			switch {
			case r.Intn(3) > 0 || i == 0 && isLeaf:
			case isLeaf:
				cells = append(cells, value(key(i), "v"))
			default:
				cells = append(cells, lead(key(i), 2+r.Intn(pages+1), 1+r.Intn(4)))
			}
		}
		if kind := r.Intn(40); kind == 0 {
			s.held[n] = make([]byte, 512-r.Intn(2))
		} else if kind == 1 {
			s.engine = 3 - s.engine
			s.lay(t, n, api.PageLeaf)
			s.engine = 3 - s.engine
		} else if isLeaf {
			s.lay(t, n, api.PageLeaf, cells...)
		} else {
			s.lay(t, n, api.PageBranch, cells...)
		}
	}
	return s
}

func anyKeys() []string {
	return []string{"", "\x00", "a", "aa", "b", "ba", "bz", "c", "d", "m", "ma", "mab", "mb", "n", "z", "zz"}
}

// P12.1 to P12.5: pages tied at will, against the chapter's words.
func TestLooksOfAnyPages(t *testing.T) {
	r := chance()
	count := map[api.Errno]int{}
	for step := range 250 {
		s := anyShelf(t, r)
		for root := range 15 {
			for e, n := range looks(t, fmt.Sprintf("step %d, root %d", step, root), s, root, anyKeys(), nearPlaces(12)) {
				count[e] += n
			}
		}
	}
	for _, e := range []api.Errno{api.OK, api.ErrTree, api.ErrPage} {
		if count[e] < 1000 {
			t.Errorf("error %d came %d times", e, count[e])
		}
	}
}

// isErrno tells whether api has that number.
func isErrno(e api.Errno) bool {
	switch e {
	case 0, 1, 2, 3, 4, 5, 10, 11, 12, 20, 21, 22, 30, 31, 32, 40, 41, 50, 51, 60, 61, 62, 63, 64, 80, 90, 100, 101, 110, 111, 112, 113, 114, 120, 130, 140,
		150, 151, 152, 153, 160, 170, 171, 172, 180, 181, 190, 191, 192, 193, 200, 201, 210, 220, 230, 231, 240, 250, 260, 261, 270, 271, 280:
		return true
	}
	return false
}

// changes makes changes of a root that may be none of a good tree: they end, without a panic, with one of api's errors, beside which all else is zero.
func changes(t *testing.T, what string, s *shelf, root int, keys []string, r *rand.Rand) {
	t.Helper()
	for range 6 {
		key := keys[r.Intn(len(keys))]
		var to int
		var old api.Cell
		var is bool
		var e api.Errno
		if r.Intn(2) == 0 {
			to, old, is, e = tree.Put(s, root, value(key, long(r.Intn(97))))
		} else {
			to, old, is, e = tree.Delete(s, root, []byte(key))
		}
		if !isErrno(e) {
			t.Fatalf("%s: %d", what, e)
		}
		if e != api.OK {
			same(t, what+": the root beside an error", to, 0)
			same(t, what+": beside an error", is || !alike(old, api.Cell{}), false)
			return
		}
		root = to
	}
}

// P12.7 to P12.9: changes of pages tied at will, fresh or not.
func TestChangesOfAnyPages(t *testing.T) {
	r := chance()
	for step := range 3000 {
		s := anyShelf(t, r)
		for n := range 14 {
			s.fresh[n] = step%3 == 0 || step%3 == 1 && r.Intn(2) == 0
		}
		for root := range 14 {
			changes(t, fmt.Sprintf("step %d, root %d", step, root), s.copiedAs(), root, anyKeys(), r)
		}
	}
}

// copiedAs is copied, each page as fresh as it is.
func (s *shelf) copiedAs() *shelf {
	c := s.copied(false)
	for n := range s.held {
		c.fresh[n] = s.fresh[n]
	}
	return c
}

// P12.7 to P12.9: good trees of which one page has been spoilt: lost, of other bytes, another of the tree's pages, of other cells.
func TestChangesOfSpoiltTrees(t *testing.T) {
	r := chance()
	for step := range 200 {
		engine := 1 + step%2
		g := planted(t, fmt.Sprint("to be spoilt ", step), newShelf(engine, 512, 4000))
		keys := make([]string, 60)
		for i := range keys {
			keys[i] = fmt.Sprintf("%s%02d", long(r.Intn(2)*40), i)
			g.put(value(keys[i], long(r.Intn(97))))
		}
		for range 20 {
			s := g.room.copied(step%4 < 2)
			at := g.is.pages[r.Intn(len(g.is.pages))]
			other := g.is.pages[r.Intn(len(g.is.pages))]
			switch r.Intn(5) {
			case 0:
				delete(s.held, at)
			case 1:
				s.held[at] = make([]byte, 512)
			case 2:
				s.held[at] = s.held[other]
			case 3:
				s.leaf(t, at, keys[r.Intn(60)])
			default:
				spoilBranch(t, r, s, at, other)
			}
			changes(t, g.what, s, g.root, keys, r)
		}
	}
}

// spoilBranch changes a cell of a branch: where it leads, its Count, or takes all but it away.
func spoilBranch(t *testing.T, r *rand.Rand, s *shelf, at, other int) {
	kind, cells, _ := s.load(at)
	if kind != api.PageBranch {
		return
	}
	i := r.Intn(len(cells))
	switch r.Intn(4) {
	case 0:
		cells[i].Page = other
	case 1:
		cells[i].Count = 1 << 30
	case 2:
		cells = cells[i : i+1]
	default:
		cells = cells[:i+1]
	}
	s.lay(t, at, api.PageBranch, cells...)
}
