package check_test

import (
	"strings"
	"testing"

	"espalier/api"
)

// P21.1, BadCell in the catalog: a cell that is no CellTree, or whose key is no name. Its tree is not walked.
func TestCellsOfTheCatalog(t *testing.T) {
	lost := ", BadLost 3 0"
	for _, name := range []string{"A", "a b", "a\x00", "\x00", "ä", "a,", "a:", "`", "{", "a\xff", "a/B", "@", "[", " ", "~", "a'", "(", "!", "a+b", "=", "*"} {
		run(t, small, trial{"no name: " + name, func(b *book) { b.cell(2, 0).Key = []byte(name) }, "BadCell 2 0" + lost})
	}
	for _, name := range []string{"a", "z", "0", "9", "-", "_", ".", "/", "a/b-c_d.e/0", "//", "..", strings.Repeat("z", 63), strings.Repeat("9", 64)} {
		run(t, small, trial{"a name: " + name, func(b *book) { b.cell(2, 0).Key = []byte(name) }, ""})
	}
	run(t, small,
		trial{"a value", func(b *book) { b.with(2, leaf(value("a", "v"))) }, "BadCell 2 0" + lost},
		trial{"a value that lies in a chain", func(b *book) {
			b.with(2, leaf(long("a", 4, 100))).with(4, held(0, 100))
			b.meta.High = 5
		}, "BadCell 2 0, BadLost 3 0, BadLost 4 0"},
		trial{"of several some", func(b *book) {
			b.with(2, leaf(value("A", "v"), tree("a", 3, 2), value("b", "v"), tree("c", 0, 0), tree("d ", 4, 1)))
			b.meta.Count = 5
		}, "BadCell 2 0, BadCell 2 2, BadCell 2 4"},
		trial{"a tree without a page", func(b *book) {
			b.with(2, leaf(tree("a", 0, 0), tree("b", 3, 2)))
			b.meta.Count = 2
		}, ""},
		trial{"a tree without a page, and no name", func(b *book) {
			b.with(2, leaf(tree("B", 0, 0), tree("b", 3, 2)))
			b.meta.Count = 2
		}, "BadCell 2 0"},
		trial{"cells of no trees count", func(b *book) {
			b.with(2, leaf(tree("B", 0, 0), tree("b", 3, 2)))
		}, "BadCell 2 0, BadCount 0 0"},
	)
	run(t, wide,
		trial{"in the catalog's second page", func(b *book) { b.cell(2, 1).Key = []byte("d d") }, "BadCell 2 1, BadLost 4 0, BadLost 6 0, BadLost 8 0"},
		trial{"beyond its bounds, too", func(b *book) { b.cell(2, 0).Key = []byte("C") }, "BadOrder 2 0, BadCell 2 0"},
		trial{"a tree beyond its bounds is walked", func(b *book) {
			b.cell(2, 0).Key = []byte("b")
			b.cell(2, 1).Count = 7
		}, "BadOrder 2 0, BadCount 2 1"},
	)
}

// A name has 64 bytes at most, also where keys may be longer.
func TestLongNames(t *testing.T) {
	for n, want := range map[int]string{63: "", 64: "", 65: "BadCell 2 0, BadLost 3 0", 128: "BadCell 2 0, BadLost 3 0"} {
		run(t, small, trial{"a long name", func(b *book) {
			b.size, b.meta.Page = 1024, 1024
			b.cell(2, 0).Key = []byte(strings.Repeat("n", n))
		}, want})
	}
}

// P21.1, BadCell in a tree: what is neither a CellValue nor a CellSpill; nothing is walked by it.
func TestCellsOfTrees(t *testing.T) {
	run(t, small,
		trial{"a tree in a tree", func(b *book) {
			b.with(3, leaf(value("x", ""), tree("y", 4, 1))).with(4, leaf(values("z")...))
			b.meta.High = 5
		}, "BadCell 3 1, BadLost 4 0"},
		trial{"an empty tree in a tree", func(b *book) { b.with(3, leaf(tree("x", 0, 0), value("y", ""))) }, "BadCell 3 0"},
		trial{"keys that are no names", func(b *book) { b.with(3, leaf(values("\x00", "A B")...)) }, ""},
	)
	run(t, tall,
		trial{"further down", func(b *book) { b.with(9, leaf(value("s", ""), tree("t", 0, 0))) }, "BadCell 9 1"},
		trial{"beyond its bounds, too", func(b *book) { b.with(9, leaf(tree("a", 0, 0), value("t", ""))) }, "BadOrder 9 0, BadCell 9 0"},
	)
}

// P21.1, 2: the trees are walked in the order in which the catalog's cells were met, behind all of the catalog.
func TestOrderOfTrees(t *testing.T) {
	run(t, wide,
		trial{"by their cells, not by their pages", func(b *book) {
			for n := range b.sheets {
				if s := b.sheets[n]; s.kind == api.PageLeaf && n != 9 && n != 2 {
					b.with(n, sheet{})
				}
			}
		}, "BadPage 7 0, BadPage 5 0, BadPage 6 0, BadPage 8 0"},
		trial{"behind the catalog", func(b *book) {
			b.cell(9, 0).Count, b.cell(9, 1).Count = 9, 9
			b.cell(2, 0).Key = []byte("C")
			b.meta.Count = 5
		}, "BadOrder 2 0, BadCell 2 0, BadCount 0 0, BadCount 9 0, BadCount 9 1"},
		trial{"as they were met, where they do not rise", func(b *book) {
			b.cell(9, 0).Count, b.cell(9, 1).Count, b.cell(2, 1).Count = 9, 9, 9
			b.cell(3, 0).Page, b.cell(3, 1).Page = 2, 9
		}, "BadOrder 2 0, BadOrder 2 1, BadOrder 9 0, BadOrder 9 1, BadCount 2 1, BadCount 9 0, BadCount 9 1"},
		trial{"the catalog has its pages first", func(b *book) {
			b.cell(9, 0).Page, b.cell(9, 1).Page = 3, 2
		}, "BadTwice 3 0, BadTwice 2 0, BadLost 5 0, BadLost 7 0"},
	)
}
