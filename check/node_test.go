package check_test

import (
	"strings"
	"testing"

	"espalier/api"
	"espalier/meta"
)

func TestWhole(t *testing.T) {
	for what, base := range map[string]func(engine int) *book{"small": small, "tall": tall, "chained": chained, "listing": listing, "wide": wide} {
		both(t, func(t *testing.T, engine int) { looks(t, what, base(engine), "") })
	}
}

func metaPage(engine, size int) sheet {
	return metaOf(api.Meta{Engine: engine, Page: size, Txn: 2, High: 2})
}

// P21.1, a tree is walked: BadKind and BadPage of all that a page may be, and it is gone into no further: no count is told of it.
func TestNoNode(t *testing.T) {
	other := func(b *book) int { return 3 - b.meta.Engine }
	for at, below := range map[int]string{
		2: "BadLost 3 0, BadLost 4 0, BadLost 5 0, BadLost 6 0, BadLost 7 0, BadLost 8 0, BadLost 9 0",
		3: "BadLost 4 0, BadLost 5 0, BadLost 6 0, BadLost 7 0, BadLost 8 0, BadLost 9 0",
		5: "BadLost 8 0, BadLost 9 0",
		7: "",
	} {
		says := func(what string) string {
			one := strings.Replace(what+" N 0", "N", string(rune('0'+at)), 1)
			if below == "" {
				return one
			}
			return one + ", " + below
		}
		run(t, tall,
			trial{"a page of a chain", func(b *book) { b.with(at, held(0, 3)) }, says("BadKind")},
			trial{"a list page", func(b *book) { b.with(at, list(0, 4)) }, says("BadKind")},
			trial{"a meta page", func(b *book) { b.with(at, metaPage(b.meta.Engine, 512)) }, says("BadKind")},
			trial{"the other engine's meta page", func(b *book) { b.with(at, metaPage(other(b), 512)) }, says("BadKind")},
			trial{"the other engine's node", func(b *book) { b.with(at, b.sheets[at].of(other(b))) }, says("BadPage")},
			trial{"the other engine's leaf", func(b *book) { b.with(at, leaf(values("a", "b")...).of(other(b))) }, says("BadPage")},
			trial{"the other engine's empty leaf", func(b *book) { b.with(at, leaf().of(other(b))) }, says("BadPage")},
			trial{"zeros", func(b *book) { b.with(at, sheet{}) }, says("BadPage")},
			trial{"a byte turned", func(b *book) { b.with(at, b.sheets[at].turn(300)) }, says("BadPage")},
			trial{"the sum turned", func(b *book) { b.with(at, b.sheets[at].turn(511)) }, says("BadPage")},
			trial{"a turned page of a chain", func(b *book) { b.with(at, held(0, 3).turn(14)) }, says("BadPage")},
		)
	}
}

// P21.1, BadThin: an empty node, one with one cell that is no root, a root that is a branch with one.
func TestThin(t *testing.T) {
	run(t, small,
		trial{"a root leaf of one cell", func(b *book) {
			b.with(3, leaf(values("x")...))
			b.cell(2, 0).Count = 1
		}, ""},
		trial{"an empty root", func(b *book) { b.with(3, leaf()) }, "BadThin 3 0, BadCount 2 0"},
		trial{"an empty root of one", func(b *book) {
			b.with(3, leaf())
			b.cell(2, 0).Count = 1
		}, "BadThin 3 0, BadCount 2 0"},
		trial{"an empty catalog", func(b *book) { b.with(2, leaf()) }, "BadThin 2 0, BadCount 0 0, BadLost 3 0"},
		trial{"an empty branch", func(b *book) { b.with(3, branch()) }, "BadThin 3 0, BadCount 2 0"},
		trial{"a catalog that is an empty branch", func(b *book) { b.with(2, branch()) }, "BadThin 2 0, BadCount 0 0, BadLost 3 0"},
		trial{"a root branch of one cell", func(b *book) {
			b.meta.High = 5
			b.with(4, b.sheets[3]).with(3, branch(child("", 4, 2)))
		}, "BadThin 3 0"},
		trial{"a catalog that is a branch of one cell, above a leaf of one", func(b *book) {
			b.meta.High = 5
			b.with(4, b.sheets[2]).with(2, branch(child("", 4, 1)))
		}, "BadThin 2 0, BadThin 4 0"},
	)
	run(t, tall,
		trial{"an inner leaf of one cell", func(b *book) {
			b.with(7, leaf(values("d")...))
			b.cell(4, 1).Count, b.cell(3, 0).Count, b.cell(2, 0).Count = 1, 3, 7
		}, "BadThin 7 0"},
		trial{"an empty inner leaf", func(b *book) { b.with(7, leaf()) }, "BadThin 7 0, BadCount 4 1, BadCount 3 0, BadCount 2 0"},
		trial{"an inner branch of one cell", func(b *book) {
			b.with(5, branch(child("", 8, 2)))
			b.cell(3, 1).Count, b.cell(2, 0).Count = 2, 6
		}, "BadThin 5 0, BadLost 9 0"},
		trial{"an empty inner branch", func(b *book) { b.with(5, branch()) }, "BadThin 5 0, BadCount 3 1, BadCount 2 0, BadLost 8 0, BadLost 9 0"},
	)
}

// P21.1, BadDepth: of each leaf that does not stand as deep as the tree's first one.
func TestDepth(t *testing.T) {
	shallow := func(b *book, at int) {
		b.with(at, leaf(values(map[int][]string{4: {"a", "b", "c", "d"}, 5: {"m", "n", "o", "p"}}[at]...)...))
	}
	run(t, tall,
		trial{"a leaf above the first", func(b *book) { shallow(b, 5) }, "BadDepth 5 0, BadLost 8 0, BadLost 9 0"},
		trial{"the first one above the others", func(b *book) { shallow(b, 4) }, "BadDepth 8 0, BadDepth 9 0, BadLost 6 0, BadLost 7 0"},
		trial{"both likewise", func(b *book) {
			shallow(b, 4)
			shallow(b, 5)
		}, "BadLost 6 0, BadLost 7 0, BadLost 8 0, BadLost 9 0"},
		trial{"one deeper", func(b *book) {
			b.pages, b.meta.High = 20, 12
			b.with(7, branch(child("", 10, 2), child("f", 11, 2))).with(10, leaf(values("d", "e")...)).with(11, leaf(values("f", "g")...))
			b.cell(4, 1).Count, b.cell(3, 0).Count, b.cell(2, 0).Count = 4, 6, 10
		}, "BadDepth 10 0, BadDepth 11 0"},
		trial{"the first that is met is the first that is a node", func(b *book) {
			shallow(b, 5)
			b.with(6, sheet{}).with(7, sheet{})
		}, "BadPage 6 0, BadPage 7 0, BadLost 8 0, BadLost 9 0"},
		trial{"of a page that was entered before nothing is told", func(b *book) { b.cell(5, 1).Page = 4 }, "BadTwice 4 0, BadLost 9 0"},
		trial{"thin comes ahead of depth", func(b *book) { b.with(5, leaf()) }, "BadThin 5 0, BadDepth 5 0, BadCount 3 1, BadCount 2 0, BadLost 8 0, BadLost 9 0"},
	)
	// Each tree has its own, and so has the catalog: in wide d is deeper than a, and the catalog is as deep as d.
	run(t, wide, trial{"trees of unlike depths", func(b *book) {}, ""})
}

// P21.1, BadOrder in branches: the first key is empty, a later one behind lo and ahead of hi.
func TestOrderInBranches(t *testing.T) {
	run(t, tall,
		trial{"a first key that is not empty", func(b *book) { b.cell(3, 0).Key = []byte("a") }, "BadOrder 3 0"},
		trial{"a first key, further down", func(b *book) { b.cell(5, 0).Key = []byte("n") }, "BadOrder 5 0"},
		trial{"a first key below the bounds", func(b *book) { b.cell(5, 0).Key = []byte("a") }, "BadOrder 5 0"},
		trial{"a key that is lo", func(b *book) { b.cell(5, 1).Key = []byte("m") }, "BadOrder 8 0, BadOrder 8 1, BadOrder 5 1"},
		trial{"a key ahead of lo", func(b *book) { b.cell(5, 1).Key = []byte("l") }, "BadOrder 8 0, BadOrder 8 1, BadOrder 5 1"},
		trial{"a key right behind lo", func(b *book) {
			b.cell(5, 1).Key = []byte("m\x00")
			b.with(8, leaf(value("m", ""))).with(9, leaf(values("m\x00", "n", "o")...))
			b.cell(5, 0).Count, b.cell(5, 1).Count = 1, 3
		}, "BadThin 8 0"},
		trial{"a key that is hi", func(b *book) { b.cell(4, 1).Key = []byte("m") }, "BadOrder 4 1, BadOrder 7 0, BadOrder 7 1"},
		trial{"a key behind hi", func(b *book) { b.cell(4, 1).Key = []byte("ma") }, "BadOrder 4 1, BadOrder 7 0, BadOrder 7 1"},
		trial{"a key right ahead of hi", func(b *book) {
			b.cell(4, 1).Key = []byte("l\xff\xff")
			b.with(7, leaf(values("l\xff\xff", "l\xff\xff\x00")...))
		}, ""},
		trial{"no bound at the root's ends", func(b *book) {
			b.cell(5, 1).Key = []byte("\xff")
			b.with(9, leaf(values("\xff", "\xff\xff")...)).with(6, leaf(values("\x00", "\x00\x00")...))
		}, ""},
		trial{"nothing is gone into behind it the less", func(b *book) {
			b.cell(4, 1).Key = []byte("z")
			b.with(7, leaf(value("z", ""), long("zz", 10, 100)))
			b.with(10, held(0, 100))
			b.meta.High = 11
		}, "BadOrder 4 1, BadOrder 7 0, BadOrder 7 1"},
	)
	run(t, wide,
		trial{"in the catalog", func(b *book) { b.cell(3, 1).Key = []byte("b") }, "BadOrder 9 1"},
		trial{"in the catalog, a first key", func(b *book) { b.cell(3, 0).Key = []byte("a") }, "BadOrder 3 0"},
	)
}

// P21.1, BadOrder in leaves: no key ahead of lo, each ahead of hi; the bounds come down from all branches above.
func TestOrderInLeaves(t *testing.T) {
	run(t, tall,
		trial{"a key ahead of lo", func(b *book) { b.with(7, leaf(values("c", "e")...)) }, "BadOrder 7 0"},
		trial{"two ahead of lo", func(b *book) { b.with(7, leaf(values("c", "c\xff")...)) }, "BadOrder 7 0, BadOrder 7 1"},
		trial{"a key that is hi", func(b *book) { b.with(6, leaf(values("a", "d")...)) }, "BadOrder 6 1"},
		trial{"a key behind hi", func(b *book) { b.with(6, leaf(values("a", "e")...)) }, "BadOrder 6 1"},
		trial{"a key right ahead of hi", func(b *book) { b.with(6, leaf(values("a", "c\xff")...)) }, ""},
		trial{"the root's bound, of the last leaf below its first cell", func(b *book) { b.with(7, leaf(values("d", "m")...)) }, "BadOrder 7 1"},
		trial{"the root's bound, of the first leaf below its second cell", func(b *book) { b.with(8, leaf(values("l", "n")...)) }, "BadOrder 8 0"},
		trial{"ahead of one, behind the other", func(b *book) { b.with(7, leaf(values("a", "f", "z")...)) }, "BadOrder 7 0, BadOrder 7 2, BadCount 4 1, BadCount 3 0, BadCount 2 0"},
		trial{"a beginning of its bound", func(b *book) {
			b.cell(3, 1).Key = []byte("mm")
			b.with(8, leaf(values("m", "n")...))
		}, "BadOrder 8 0"},
	)
	run(t, wide,
		trial{"in the catalog, behind hi", func(b *book) { b.cell(9, 1).Key = []byte("c") }, "BadOrder 9 1"},
		trial{"in the catalog, ahead of lo", func(b *book) { b.cell(2, 0).Key = []byte("b") }, "BadOrder 2 0"},
	)
}

// P21.1, BadCount of branches' cells, of the catalog's cells, of the meta's Count.
func TestCount(t *testing.T) {
	for _, n := range []int{1, 3, 1 << 30} {
		run(t, tall,
			trial{"of a leaf", func(b *book) { b.cell(4, 0).Count = n }, "BadCount 4 0"},
			trial{"of the last leaf", func(b *book) { b.cell(5, 1).Count = n }, "BadCount 5 1"},
			trial{"of a branch", func(b *book) { b.cell(3, 1).Count = n }, "BadCount 3 1"},
			trial{"of the tree", func(b *book) { b.cell(2, 0).Count = n }, "BadCount 2 0"},
		)
	}
	run(t, tall,
		trial{"of all", func(b *book) {
			b.cell(4, 0).Count, b.cell(5, 1).Count, b.cell(3, 1).Count, b.cell(2, 0).Count, b.meta.Count = 9, 9, 9, 9, 9
		}, "BadCount 1 0, BadCount 4 0, BadCount 5 1, BadCount 3 1, BadCount 2 0"},
		trial{"a page that is no node counts as is said", func(b *book) {
			b.cell(4, 1).Count, b.cell(3, 0).Count, b.cell(2, 0).Count = 5, 7, 11
			b.with(7, sheet{})
		}, "BadPage 7 0"},
		trial{"so does one that was entered before", func(b *book) {
			b.cell(4, 1).Count, b.cell(3, 0).Count, b.cell(2, 0).Count = 5, 7, 11
			b.cell(4, 1).Page = 6
		}, "BadTwice 6 0, BadLost 7 0"},
		trial{"and one that is none", func(b *book) { b.cell(4, 1).Count, b.cell(4, 1).Page = 5, 10 }, "BadRange 4 1, BadCount 3 0, BadCount 2 0, BadLost 7 0"},
		trial{"but not what stands beside it", func(b *book) {
			b.cell(4, 0).Count = 3
			b.with(7, sheet{})
		}, "BadCount 4 0, BadPage 7 0"},
		trial{"what is entered counts, whatever else is wrong", func(b *book) { b.with(7, leaf(values("x", "y")...)) }, "BadOrder 7 0, BadOrder 7 1"},
		trial{"of a root that is no node nothing is told", func(b *book) {
			b.with(3, sheet{})
			b.meta.High = 4
			b.cell(2, 0).Count = 77
		}, "BadPage 3 0"},
	)
	for _, n := range []int{3, 5, 256} {
		run(t, wide, trial{"the meta's", func(b *book) { b.meta.Count = n }, "BadCount 0 0"})
		run(t, listing, trial{"the meta's", func(b *book) { b.meta.Count = n }, "BadCount 1 0"})
		run(t, wide, trial{"of a catalog that is no node", func(b *book) {
			b.meta.Count, b.meta.High, b.meta.Root = n, 3, 2
			b.with(2, sheet{})
		}, "BadPage 2 0"})
	}
	run(t, wide,
		trial{"in the catalog's branch", func(b *book) { b.cell(3, 1).Count = 5 }, "BadCount 3 1"},
		trial{"a page of the catalog that is no node counts as is said", func(b *book) {
			b.cell(3, 1).Count, b.meta.Count = 5, 7
			b.with(2, sheet{})
		}, "BadPage 2 0, BadLost 4 0, BadLost 6 0, BadLost 8 0"},
		trial{"of a page that is too far", func(b *book) { b.cell(9, 0).Page, b.cell(9, 0).Count = 12, 7 }, "BadRange 9 0, BadLost 7 0"},
	)
}

// P21.1: the meta's page is the one that was picked, and what names by it says so.
func TestTheMetasPage(t *testing.T) {
	run(t, small,
		trial{"page 0", func(b *book) { b.meta.Count = 2 }, "BadCount 0 0"},
		trial{"page 1", func(b *book) { b.meta.Count, b.meta.Txn = 2, 3 }, "BadCount 1 0"},
		trial{"an older one beside it", func(b *book) {
			b.meta.Count = 2
			b.with(1, metaOf(api.Meta{Engine: 1, Page: 512, Txn: 1, High: 2}))
		}, "BadCount 0 0"},
		trial{"a newer one beside it", func(b *book) {
			b.meta.Count = 2
			b.with(1, metaOf(api.Meta{Engine: 1, Page: 512, Txn: 5, High: 2}))
		}, ""},
		trial{"a newer one that does not belong there", func(b *book) {
			b.meta.Count = 2
			b.with(1, metaOf(api.Meta{Engine: 1, Page: 512, Txn: 6, High: 2}))
		}, "BadCount 0 0"},
		trial{"a newer one that is torn", func(b *book) {
			b.meta.Count = 2
			b.with(1, metaOf(api.Meta{Engine: 1, Page: 512, Txn: 5, High: 2}).turn(40))
		}, "BadCount 0 0"},
		trial{"the newer one is looked at, whatever the older says", func(b *book) {
			b.with(1, metaOf(api.Meta{Engine: 1, Page: 512, Txn: 5, High: 4}))
		}, "BadLost 2 0, BadLost 3 0"},
		trial{"High of all pages", func(b *book) { b.meta.High = 8 }, "BadLost 4 0, BadLost 5 0, BadLost 6 0, BadLost 7 0"},
		trial{"High above", func(b *book) { b.meta.High = 9 }, "BadMeta 0 0"},
		trial{"High at the limit", func(b *book) { b.meta.High = 65536 }, "BadMeta 0 0"},
		trial{"High above, in page 1", func(b *book) { b.meta.High, b.meta.Txn = 9, 3 }, "BadMeta 0 0"},
		trial{"High above in the newer one", func(b *book) {
			b.with(1, metaOf(api.Meta{Engine: 1, Page: 512, Txn: 5, High: 9}))
		}, "BadMeta 0 0"},
		trial{"High above in the older one", func(b *book) {
			b.with(1, metaOf(api.Meta{Engine: 1, Page: 512, Txn: 1, High: 9}))
		}, ""},
		trial{"no tree, and pages", func(b *book) { b.meta.Root, b.meta.Count = 0, 0 }, "BadLost 2 0, BadLost 3 0"},
		trial{"pages from High on may be anything", func(b *book) {
			b.with(4, leaf(values("x")...)).with(5, bytesAs(text(512))).with(6, list(4, 5)).with(7, metaOf(b.meta))
		}, ""},
	)
}

// P21.1: a page that says one size is none of another.
func TestMetaOfAnotherSize(t *testing.T) {
	both(t, func(t *testing.T, engine int) {
		image := make([]byte, 8*1024)
		b, e := meta.Encode(api.Meta{Engine: engine, Page: 512, High: 2})
		stop(t, "Encode", e)
		copy(image, b)
		for size, want := range map[int]string{512: "", 1024: "BadMeta 0 0", 2048: "BadMeta 0 0"} {
			looksAt(t, "a meta of 512 bytes", image, size, want)
		}
	})
}
