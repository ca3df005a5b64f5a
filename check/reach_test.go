package check_test

import (
	"fmt"
	"slices"
	"testing"

	"espalier/api"
	"espalier/check"
)

func reach(t *testing.T, b *book) string {
	t.Helper()
	used, listed, free, e := check.Reach(imageOf(t, b), b.size)
	return fmt.Sprint(used, listed, free, int(e))
}

// P21.2: the pages of trees, the catalog's, and chains; the list's; those that are listed; each rising.
func TestReach(t *testing.T) {
	both(t, func(t *testing.T, engine int) {
		same(t, "small", reach(t, small(engine)), "[2 3] [] [] 0")
		same(t, "tall", reach(t, tall(engine)), "[2 3 4 5 6 7 8 9] [] [] 0")
		same(t, "chained", reach(t, chained(engine)), "[2 3 4 5 6 7] [] [] 0")
		same(t, "listing", reach(t, listing(engine)), "[2 3] [4 5 8] [6 7 9] 0")
		same(t, "wide", reach(t, wide(engine)), "[2 3 4 5 6 7 8 9] [] [] 0")
		none := small(engine)
		none.meta, none.sheets = api.Meta{Engine: engine, Page: 512, High: 2}, nil
		same(t, "none", reach(t, none), "[] [] [] 0")
		list1 := small(engine)
		list1.meta = api.Meta{Engine: engine, Page: 512, Txn: 2, Free: 3, Listed: 1, High: 4}
		list1.sheets = map[int]sheet{3: list(0, 2)}
		same(t, "a list alone", reach(t, list1), "[] [3] [2] 0")
	})
}

// told of a tree: the name, and its pairs.
func pairsText(names []string, trees [][]api.Pair) []string {
	var l []string
	for i, name := range names {
		s := name + ":"
		for _, p := range trees[i] {
			s += fmt.Sprintf(" %q=%q", p.Key, p.Value)
		}
		l = append(l, s)
	}
	return l
}

// P21.3: the names, sorted, and each tree's pairs, by rising keys; those of an empty tree are none.
func TestTrees(t *testing.T) {
	both(t, func(t *testing.T, engine int) {
		for _, x := range []struct {
			b    *book
			want []string
		}{
			{small(engine), []string{`a: "x"="1" "y"=""`}},
			{listing(engine), []string{`a: "x"="1" "y"=""`}},
			{tall(engine), []string{`a: "a"="of a" "b"="of b" "d"="of d" "e"="of e" "m"="of m" "n"="of n" "s"="of s" "t"="of t"`}},
			{wide(engine), []string{`a: "k"="of k"`, `b: "k"="of k" "l"="of l"`, `c:`, `d: "k"="of k" "l"="of l" "m"="of m" "n"="of n"`}},
			{chained(engine), []string{fmt.Sprintf(`a: "x"=%q "y"=%q`, slices.Concat(text(496), text(496), text(8)), text(97))}},
		} {
			names, trees, e := check.Trees(imageOf(t, x.b), 512)
			same(t, "the error", e, api.OK)
			same(t, "as many names as trees", len(names), len(trees))
			sameList(t, "Trees", pairsText(names, trees), x.want)
		}
		none := small(engine)
		none.meta, none.sheets = api.Meta{Engine: engine, Page: 512, High: 2}, nil
		names, trees, e := check.Trees(imageOf(t, none), 512)
		same(t, "of no tree", fmt.Sprint(names, trees, int(e)), "[] [] 0")
	})
}

// P21.3: a long value is whole, whatever its length, and in whatever order its pages stand.
func TestTreesOfLongValues(t *testing.T) {
	both(t, func(t *testing.T, engine int) {
		for _, n := range []int{97, 495, 496, 497, 992, 993, 5000, 65535, 65536} {
			b := small(engine)
			end := 4 + layChain(b, 4, text(n))
			b.pages, b.meta.High = end, end
			b.with(3, leaf(long("x", 4, n), value("y", "z")))
			_, trees, e := check.Trees(imageOf(t, b), 512)
			stop(t, "Trees", e)
			same(t, "the value", string(trees[0][0].Value) == string(text(n)), true)
			same(t, "the next one", string(trees[0][1].Value), "z")
		}
	})
}

// P21.4: the cells of all leaves, by their pages, of either engine, whatever else is wrong.
func TestSalvage(t *testing.T) {
	both(t, func(t *testing.T, engine int) {
		cells := func(b *book) []string {
			t.Helper()
			l, e := check.Salvage(imageOf(t, b), b.size)
			same(t, "the error", e, api.OK)
			return asTexts(l)
		}
		of := func(keys ...string) []string { return asTexts(values(keys...)) }
		catalog := asTexts([]api.Cell{tree("a", 3, 8)})
		sameList(t, "tall", cells(tall(engine)), slices.Concat(catalog, of("a", "b", "d", "e", "m", "n", "s", "t")))
		sameList(t, "a page less", cells(tall(engine).with(7, sheet{}).with(2, sheet{})), of("a", "b", "m", "n", "s", "t"))
		sameList(t, "a page with a byte turned", cells(tall(engine).with(7, leaf(values("d", "e")...).turn(100))), slices.Concat(catalog, of("a", "b", "m", "n", "s", "t")))
		b := tall(engine).with(7, leaf(values("d", "e")...).of(3-engine)).with(12, leaf(values("y", "y1")...)).with(15, leaf(values("a")...))
		sameList(t, "the other engine's, and pages beyond High", cells(b), slices.Concat(catalog, of("a", "b", "d", "e", "m", "n", "s", "t", "y", "y1", "a")))
		b = chained(engine)
		sameList(t, "cells of long values", cells(b), asTexts([]api.Cell{tree("a", 3, 2), long("x", 4, 1000), long("y", 7, 97)}))
		b = listing(engine).with(1, leaf(values("b")...)).with(7, leaf()).with(9, leaf(values("q")...))
		sameList(t, "a leaf in page 1 is not told; one that is listed is", cells(b), asTexts([]api.Cell{tree("a", 3, 2), value("x", "1"), value("y", ""), value("q", "of q")}))
		b = small(engine)
		b.meta.High = 100
		sameList(t, "without a meta", cells(b), asTexts([]api.Cell{tree("a", 3, 2), value("x", "1"), value("y", "")}))
		b.sheets = map[int]sheet{0: leaf(values("a")...), 2: branch(child("", 3, 1)), 4: metaPage(engine, 512)}
		sameList(t, "no leaf", cells(b), nil)
	})
}
