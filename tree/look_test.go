package tree_test

import (
	"fmt"
	"math"
	"strings"
	"testing"

	"espalier/api"
	"espalier/tree"
)

// shapes are good trees of a leaf, of a branch with two leaves, of three and of four levels, each on a shelf of its own, with its root and its keys.
func shapes(t *testing.T, engine, size int) []*garden {
	var l []*garden
	for i, lay := range []func(s *shelf) (int, []string){
		func(s *shelf) (int, []string) { return 0, nil },
		func(s *shelf) (int, []string) {
			s.leaf(t, 9, "m")
			return 9, []string{"m"}
		},
		func(s *shelf) (int, []string) {
			s.leaf(t, 300, "b", "c", "da")
			return 300, []string{"b", "c", "da"}
		},
		func(s *shelf) (int, []string) {
			// The bounds are not the keys that stand behind them.
			s.leaf(t, 5, "b", "bb")
			s.leaf(t, 4, "d", "dd", "ddd")
			s.leaf(t, 3, "k", "l")
			s.branch(t, 70, lead("", 5, 2), lead("c", 4, 3), lead("dddd", 3, 2))
			return 70, []string{"b", "bb", "d", "dd", "ddd", "k", "l"}
		},
		func(s *shelf) (int, []string) { return threeLevels(t, s) },
		func(s *shelf) (int, []string) { return manyLevels(t, s, 5) },
	} {
		s := newShelf(engine, size, 65536)
		g := planted(t, fmt.Sprintf("shape %d, engine %d, %d bytes", i, engine, size), s)
		var keys []string
		g.root, keys = lay(s)
		g.cells = values(keys...)
		is, fault := s.good(g.root)
		if fault != "" {
			t.Fatalf("%s: %s", g.what, fault)
		}
		g.is = is
		l = append(l, g)
	}
	return l
}

func threeLevels(t *testing.T, s *shelf) (int, []string) {
	s.leaf(t, 10, "\x00", "a")
	s.leaf(t, 11, "b", "c", "d", "e")
	s.leaf(t, 12, "f", "g\x00")
	s.leaf(t, 13, "g\x00\x00", "h", "i")
	s.leaf(t, 14, "\xff", "\xff\xff")
	s.branch(t, 20, lead("", 10, 2), lead("b", 11, 4))
	s.branch(t, 21, lead("", 12, 2), lead("g\x00\x00", 13, 3), lead("j", 14, 2))
	s.branch(t, 2, lead("", 20, 6), lead("ee", 21, 7))
	return 2, []string{"\x00", "a", "b", "c", "d", "e", "f", "g\x00", "g\x00\x00", "h", "i", "\xff", "\xff\xff"}
}

// manyLevels is a tree of so many levels in which each page has two cells.
func manyLevels(t *testing.T, s *shelf, levels int) (int, []string) {
	page, keys := 1, []string{}
	var grow func(from, level int) int
	grow = func(from, level int) int {
		page++
		at := page
		if level == 1 {
			two := []string{fmt.Sprintf("%03d", from), fmt.Sprintf("%03d", from+1)}
			keys = append(keys, two...)
			s.leaf(t, at, two...)
			return at
		}
		half := 1 << (level - 1)
		left := grow(from, level-1)
		right := grow(from+half, level-1)
		s.branch(t, at, lead("", left, half), lead(fmt.Sprintf("%03d", from+half), right, half))
		return at
	}
	return grow(0, levels), keys
}

// P12.1 to P12.5: all looks of all shapes, with all keys and places.
func TestLooks(t *testing.T) {
	for _, engine := range engines() {
		for _, size := range []int{512, 1024, 4096, 65536} {
			for _, g := range shapes(t, engine, size) {
				g.all()
			}
		}
	}
}

// P12.1 to P12.5: of the root 0 nothing is read, and there is no cell.
func TestLooksOfTheEmptyTree(t *testing.T) {
	for _, engine := range engines() {
		s := newShelf(engine, 512, 40)
		s.leaf(t, 0, "a")
		s.leaf(t, 2, "a")
		looks(t, "the root 0", s, 0, nearKeys(values("a")), nearPlaces(2))
		same(t, "Drop", tree.Drop(s, 0), api.OK)
		same(t, "asks", len(s.acts), 0)
	}
}

// P12.1, P12.2: keys that are longer than any may be, with what all keys begin with.
func TestLongKeysAreAskedFor(t *testing.T) {
	for _, engine := range engines() {
		s := newShelf(engine, 512, 40)
		stem := strings.Repeat("s", 60)
		s.leaf(t, 3, stem+"a", stem+"b")
		s.leaf(t, 4, stem+"d", stem+"e")
		s.branch(t, 2, lead("", 3, 2), lead(stem+"c", 4, 2))
		var keys []string
		for _, tail := range []string{"", "a", "aa", "b", "c", "d", "dd", "e", "f"} {
			keys = append(keys, stem+tail, stem+tail+long(1000), stem+tail+"\x00", stem[1:]+tail, "t"+stem+tail)
		}
		same(t, "ways that end well", looks(t, "long keys", s, 2, keys, nil)[api.OK], len(keys)+1)
	}
}

// P12.4: Len reads the root alone.
func TestLenReadsTheRoot(t *testing.T) {
	for _, engine := range engines() {
		s := newShelf(engine, 512, 40)
		s.branch(t, 7, lead("", 20, 1<<30), lead("k", 7, 5), lead("l", 30, 1<<30))
		n, e := tree.Len(s, 7)
		same(t, "Len", n, 1<<31+5)
		same(t, "Len", e, api.OK)
		sameList(t, "pages read", s.asked("read", 0), []int{7})
		s.lay(t, 8, api.PageLeaf)
		n, e = tree.Len(s, 8)
		same(t, "Len of a leaf without a cell", n, 0)
		same(t, "Len of a leaf without a cell", e, api.OK)
	}
}

// P12.1 to P12.4: just the pages of the way are read, from the root on.
func TestJustTheWayIsRead(t *testing.T) {
	for _, engine := range engines() {
		s := newShelf(engine, 512, 400)
		root, _ := threeLevels(t, s)
		for key, way := range map[string][]int{"": {2, 20, 10}, "b": {2, 20, 11}, "ed": {2, 20, 11}, "ee": {2, 21, 12}, "i\xff": {2, 21, 13}, "j": {2, 21, 14}, "\xff\xff\xff": {2, 21, 14}} {
			for what, look := range map[string]func(){
				"Get":  func() { tree.Get(s, root, []byte(key)) },
				"Rank": func() { tree.Rank(s, root, []byte(key)) },
			} {
				s.acts = nil
				look()
				sameList(t, fmt.Sprintf("%s(%q)", what, key), s.asked("read", 0), way)
			}
		}
		for i, way := range map[int][]int{0: {2, 20, 10}, 1: {2, 20, 10}, 2: {2, 20, 11}, 5: {2, 20, 11}, 6: {2, 21, 12}, 12: {2, 21, 14}, 13: {2}, -1: nil, math.MinInt: nil, math.MaxInt: {2}} {
			s.acts = nil
			tree.At(s, root, i)
			sameList(t, fmt.Sprintf("At(%d)", i), s.asked("read", 0), way)
		}
		s.acts = nil
		tree.Height(s, root)
		sameList(t, "Height", s.asked("read", 0), []int{2, 20, 10})
		s.acts = nil
		tree.Pages(s, root)
		sameList(t, "Pages", s.asked("read", 0), []int{2, 20, 10, 11, 21, 12, 13, 14})
	}
}

// P12.1 to P12.4: Counts, keys and levels that are not those of a good tree are taken as they stand.
func TestLooksOfTreesThatAreNotGood(t *testing.T) {
	for _, engine := range engines() {
		s := newShelf(engine, 512, 400)
		keys, places := nearKeys(values("a", "b", "c", "k", "z")), nearPlaces(40)
		// Counts that are not so.
		s.leaf(t, 3, "a", "b")
		s.leaf(t, 4, "k")
		s.branch(t, 2, lead("", 3, 1), lead("c", 4, 20))
		looks(t, "wrong counts", s, 2, keys, places)
		n, _ := tree.Rank(s, 2, []byte("z"))
		same(t, "Rank", n, 2)
		same(t, "At(0)", atOf(s, 2, 0), "0 a:a")
		same(t, "At(1)", atOf(s, 2, 1), "0 k:k")
		same(t, "At(2)", atOf(s, 2, 2), "0 none")
		same(t, "At(21)", atOf(s, 2, 21), "0 none")
		// A first key that is not empty: what stands ahead of it goes there all the same.
		s.branch(t, 5, lead("b", 3, 2), lead("c", 4, 1))
		looks(t, "a first key", s, 5, keys, places)
		same(t, "ahead of all keys", getOf(s, 5, "a"), "0 a:a")
		// A branch of one cell, leaves at unlike depths, a leaf without cells.
		s.branch(t, 6, lead("", 4, 1))
		s.lay(t, 7, api.PageLeaf)
		s.branch(t, 8, lead("", 7, 3), lead("b", 3, 2), lead("d", 6, 1))
		looks(t, "unlike depths", s, 8, keys, places)
		same(t, "the deep one", getOf(s, 8, "k"), "0 k:k")
		h, _ := tree.Height(s, 8)
		same(t, "Height", h, 2)
		// Keys beyond their bounds.
		s.branch(t, 9, lead("", 4, 1), lead("c", 3, 2))
		looks(t, "keys beyond their bounds", s, 9, keys, places)
		same(t, "where the way does not go", getOf(s, 9, "k"), "0 none")
	}
}

// P12.1: a cell of every kind is told as it is.
func TestCellsOfAllKinds(t *testing.T) {
	for _, engine := range engines() {
		cells := row(value("a", ""), value("b", long(96)), spill("c", 65535, 65536), spill("d", 2, 97), named("e", 0, 0), named("f", 65535, 1<<30), named(long(64), 2, 1))
		s := newShelf(engine, 512, 40)
		g := planted(t, fmt.Sprint("all kinds, engine ", engine), s)
		for _, c := range cells {
			g.put(c)
		}
		g.all()
	}
}

// P12.6: of all heights.
func TestNeed(t *testing.T) {
	for height, want := range map[int]int{
		math.MinInt: 4, math.MinInt + 1: 4, -65537: 4, -2: 4, -1: 4, 0: 4, 1: 7, 2: 10, 3: 13, 40: 124, 1000: 3004,
		65535: 196609, 65536: 196612, 65537: 196612, 65538: 196612, 1 << 20: 196612, 1 << 32: 196612, 1<<62 + 1: 196612, math.MaxInt - 1: 196612, math.MaxInt: 196612,
	} {
		same(t, fmt.Sprintf("Need(%d)", height), tree.Need(height), want)
	}
	for height := range 65600 {
		if n := tree.Need(height); n != 4+3*min(height, 65536) {
			t.Fatalf("Need(%d): %d", height, n)
		}
	}
}
