package check_test

import (
	"fmt"
	"testing"

	"espalier/api"
)

// P21.1, 3: BadKind and BadPage of all that a page may be; the list goes no further, and what was not listed is missed.
func TestNoPageOfTheList(t *testing.T) {
	for at, below := range map[int]string{
		5: "BadCount 1 1, BadLost 4 0, BadLost 6 0, BadLost 7 0, BadLost 8 0, BadLost 9 0",
		4: "BadCount 1 1, BadLost 6 0, BadLost 8 0",
		8: "",
	} {
		says := func(what string) string {
			if below == "" {
				return fmt.Sprint(what, " ", at, " 0")
			}
			return fmt.Sprint(what, " ", at, " 0, ", below)
		}
		run(t, listing,
			trial{"a leaf", func(b *book) { b.with(at, leaf(values("x")...)) }, says("BadKind")},
			trial{"an empty leaf", func(b *book) { b.with(at, leaf()) }, says("BadKind")},
			trial{"a branch", func(b *book) { b.with(at, branch(child("", 2, 1))) }, says("BadKind")},
			trial{"the other engine's leaf", func(b *book) { b.with(at, leaf(values("x")...).of(3-b.meta.Engine)) }, says("BadKind")},
			trial{"the other engine's branch", func(b *book) { b.with(at, branch(child("", 2, 1)).of(3-b.meta.Engine)) }, says("BadKind")},
			trial{"a meta page", func(b *book) { b.with(at, metaPage(b.meta.Engine, 512)) }, says("BadKind")},
			trial{"a page of a chain", func(b *book) { b.with(at, held(4, 496)) }, says("BadKind")},
			trial{"zeros", func(b *book) { b.with(at, sheet{}) }, says("BadPage")},
			trial{"a byte turned", func(b *book) { b.with(at, b.sheets[at].turn(11)) }, says("BadPage")},
			trial{"the sum turned", func(b *book) { b.with(at, b.sheets[at].turn(511)) }, says("BadPage")},
			trial{"a turned page of a chain", func(b *book) { b.with(at, held(0, 5).turn(13)) }, says("BadPage")},
		)
	}
}

// P21.1, 3: BadCount of the meta's Listed.
func TestListed(t *testing.T) {
	for _, n := range []int{0, 1, 2, 4, 8} {
		run(t, listing, trial{"another number", func(b *book) { b.meta.Listed = n }, "BadCount 1 1"})
	}
	run(t, small,
		trial{"a list that lists none", func(b *book) {
			b.meta.Free, b.meta.High = 4, 5
			b.with(4, list(0))
		}, ""},
		trial{"one that lists none, and is said to", func(b *book) {
			b.meta.Free, b.meta.High, b.meta.Listed = 4, 5, 1
			b.with(4, list(0))
		}, "BadCount 0 1"},
		trial{"what cannot be entered is listed all the same", func(b *book) {
			b.meta.Free, b.meta.High, b.meta.Listed = 4, 6, 3
			b.with(4, list(0, 3, 5, 7))
		}, "BadTwice 3 0, BadRange 4 2"},
		trial{"likewise, and one is missed", func(b *book) {
			b.meta.Free, b.meta.High, b.meta.Listed = 4, 6, 1
			b.with(4, list(0, 3, 5, 7))
		}, "BadTwice 3 0, BadRange 4 2, BadCount 0 1"},
		trial{"pages that are listed may be anything", func(b *book) {
			b.meta.Free, b.meta.High, b.meta.Listed, b.pages = 4, 11, 6, 12
			b.with(4, list(0, 5, 6, 7, 8, 9, 10))
			b.with(5, leaf(values("x")...)).with(6, list(6, 5)).with(7, held(7, 3)).with(8, metaPage(b.meta.Engine, 512)).with(9, bytesAs(text(512)))
		}, ""},
		trial{"a list without a catalog", func(b *book) {
			b.meta = api.Meta{Engine: b.meta.Engine, Page: 512, Txn: 2, Free: 2, Listed: 1, High: 4}
			b.with(2, list(0, 3))
		}, ""},
	)
}

// P21.1, 3: what a list page names is entered ahead of the next page; its places are told.
func TestPlacesOfTheList(t *testing.T) {
	run(t, listing,
		trial{"the places", func(b *book) { b.with(5, list(4, 7, 9, 11, 12, 15)) }, "BadRange 5 2, BadRange 5 3, BadRange 5 4, BadCount 1 1"},
		trial{"ahead of the next page's", func(b *book) { b.with(5, list(4, 6, 12)) }, "BadRange 5 1, BadTwice 6 0, BadLost 7 0, BadLost 9 0"},
		trial{"the next page, ahead of what it names", func(b *book) { b.with(4, list(12, 6, 12)) }, "BadRange 4 1, BadRange 4 0, BadCount 1 1, BadLost 8 0"},
	)
}

// P21.1, 3: the list comes behind all trees, and BadLost behind it.
func TestListBehindTrees(t *testing.T) {
	run(t, listing, trial{"all together", func(b *book) {
		b.meta.High, b.meta.Count, b.meta.Listed = 12, 2, 4
		b.cell(2, 0).Count = 9
		b.with(3, leaf(value("x", ""), tree("y", 0, 0)))
	}, "BadCount 1 0, BadCell 3 1, BadCount 2 0, BadCount 1 1, BadLost 10 0, BadLost 11 0"})
}

// P21.1, 3: a long list, of full pages.
func TestLongList(t *testing.T) {
	both(t, func(t *testing.T, engine int) {
		b := small(engine)
		b.pages, b.meta.High, b.meta.Free = 400, 400, 4
		n := 8
		for at := range 4 {
			var pages []int
			for ; n < 400 && len(pages) < 125; n++ {
				pages = append(pages, n)
			}
			b.with(4+at, list((5+at)%8, pages...))
			b.meta.Listed += len(pages)
		}
		same(t, "listed", b.meta.Listed, 392)
		looks(t, "a long list", b, "")
		b.meta.Listed--
		looks(t, "one less", b, "BadCount 0 1")
	})
}
