package grove_test

import (
	"fmt"
	"slices"
	"strings"
	"testing"

	"espalier/api"
	"espalier/grove"
)

const nameBytes = "abcdefghijklmnopqrstuvwxyz0123456789-_./"

// P15.1: Open reads nothing, and Root tells what it was given; also where that is nothing good.
func TestOpenReadsNothing(t *testing.T) {
	for _, engine := range engines() {
		for _, x := range [][2]int{{0, 0}, {7, 3}, {-1, -1}, {0, 256}, {65535, 257}, {1 << 40, -1 << 40}} {
			s := newShelf(engine, 512)
			g := grove.Open(s, x[0], x[1])
			same(t, "Open answers nil", g == nil, false)
			root, n := g.Root()
			same(t, "the root", root, x[0])
			same(t, "how many trees", n, x[1])
			same(t, "what the room was asked", len(s.acts), 0)
		}
	}
}

// P15.1: the empty grove has no tree, and nothing is read of it.
func TestTheEmptyGrove(t *testing.T) {
	for _, engine := range engines() {
		g := planted(t, "the empty grove", newShelf(engine, 512))
		g.looks()
		s := newShelf(engine, 512)
		l, e := grove.Open(s, 0, 0).Names()
		same(t, "Names", e, api.OK)
		same(t, "Names", len(l), 0)
		same(t, "what the room was asked", len(s.acts), 0)
	}
}

// P15.2: each byte alone, first, in the midst and last; lengths about 0 and MaxName.
func TestNames(t *testing.T) {
	for _, engine := range engines() {
		s := newShelf(engine, 512)
		g := planted(t, fmt.Sprint("names, engine ", engine), s)
		count := 0
		for b := range 256 {
			c := string([]byte{byte(b)})
			isOne := strings.Contains(nameBytes, c)
			for _, name := range []string{c, c + "zz", "z" + c + "z", "zz" + c, c + c} {
				at := grove.Open(newShelf(engine, 512), 0, 0)
				e := at.Make(name)
				same(t, fmt.Sprintf("Make(%q)", name), e == api.OK, isOne)
				same(t, fmt.Sprintf("Make(%q)", name), e == api.ErrName, !isOne)
				l, _ := at.Names()
				same(t, fmt.Sprintf("Names behind Make(%q)", name), slices.Equal(l, []string{name}), isOne)
			}
			g.make(c)
			if isOne {
				count++
			}
		}
		same(t, "bytes that names may have", count, 40)
		for _, n := range []int{0, 1, 2, 63, 64, 65, 66, 128, 70000} {
			g.make(strings.Repeat("n", n))
		}
		g.make("é", "a b", "a\x00", "日", "\xc3", "a\n", "-", "_", ".", "/", "..", "a/b", "/a", "0", "00")
		g.looks()
	}
}

// P15.1, P15.2: 256 trees, whose names come in no order, and one more; the longest names.
func TestAsManyTreesAsMayBe(t *testing.T) {
	t.Parallel()
	for _, engine := range engines() {
		for _, size := range []int{512, 4096} {
			g := planted(t, fmt.Sprint("256 trees, engine ", engine, ", ", size, " bytes"), newShelf(engine, size))
			for i := range 256 {
				// Every name has 64 bytes, so that the catalog is as great as it can be.
				name := fmt.Sprintf("%03d%s", i*77%256, strings.Repeat("n", 61))
				c := g.makes(name)
				if i%16 == 0 || i > 250 {
					g.does(c)
					continue
				}
				g.g, g.is = g.try("", g.room, c)
				g.want = c.then
			}
			_, n := g.g.Root()
			same(t, g.what, n, 256)
			g.looks()
			// ErrName goes ahead of all else, ErrThere of ErrTrees, that of ErrFull (does asks in a full room, too).
			g.make("A", "", strings.Repeat("n", 65))
			g.make(fmt.Sprintf("%03d%s", 9, strings.Repeat("n", 61)))
			same(t, g.what+": one more", g.makes("one-more").e, api.ErrTrees)
			g.make("one-more")
			g.drop(fmt.Sprintf("%03d%s", 100, strings.Repeat("n", 61)))
			same(t, g.what+": one more behind a Drop", g.makes("one-more").e, api.OK)
			g.make("one-more", "and-one")
			g.put("one-more", "k", "v")
			g.looks()
		}
	}
}

// P15.1: names are told sorted by their bytes; a tree is found by its whole name alone.
func TestNamesAreSorted(t *testing.T) {
	for _, engine := range engines() {
		g := planted(t, fmt.Sprint("sorted, engine ", engine), newShelf(engine, 512))
		g.make("b", "a", "ab", "a-", "a.", "a/", "a0", "a_", "aa", "-", "_", "a", "b")
		l, e := g.g.Names()
		same(t, "Names", e, api.OK)
		sameList(t, "Names", l, []string{"-", "_", "a", "a-", "a.", "a/", "a0", "a_", "aa", "ab", "b"})
		g.put("a", "k", "of a")
		g.put("ab", "k", "of ab")
		g.del("a-", "k")
		g.put("a0", "k2", long(900, '0'))
		g.looks()
	}
}

// P15.1: what another grove over the same root, or one that was opened before, is told.
func TestRootAndTreeFollowChanges(t *testing.T) {
	for _, engine := range engines() {
		s := newShelf(engine, 512)
		g := grove.Open(s, 0, 0)
		g.Make("a")
		g.Make("b")
		for i := range 40 {
			if _, e := g.Put("a", []byte{byte(i), 'k'}, []byte(long(40+i*5, 'v'))); e != api.OK {
				t.Fatalf("Put: %d", e)
			}
			s.settle()
			root, n := g.Root()
			same(t, "how many trees", n, 2)
			v, fault := s.good(root, n)
			same(t, "fault", fault, "")
			at, k, e := g.Tree("a")
			same(t, "Tree", e, api.OK)
			same(t, "Tree: cells", k, i+1)
			same(t, "Tree: its root", slices.Contains(v.trees["a"].pages, at), true)
			h := grove.Open(s, root, n)
			l, e := h.Len("a")
			same(t, "Len of another grove", e, api.OK)
			same(t, "Len of another grove", l, i+1)
		}
		at, k, e := g.Tree("b")
		same(t, "an empty tree's root", at, 0)
		same(t, "an empty tree's cells", k, 0)
		same(t, "Tree of an empty tree", e, api.OK)
	}
}
