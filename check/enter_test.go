package check_test

import "testing"

// P21.1, BadRange: a page that is not below High, told of who names it.
func TestRange(t *testing.T) {
	for _, n := range []int{10, 11, 15, 16, 17, 65535} {
		run(t, tall,
			trial{"a tree's root", func(b *book) { b.cell(2, 0).Page = n }, "BadRange 2 0, BadLost 3 0, BadLost 4 0, BadLost 5 0, BadLost 6 0, BadLost 7 0, BadLost 8 0, BadLost 9 0"},
			trial{"a branch's child", func(b *book) { b.cell(3, 1).Page = n }, "BadRange 3 1, BadLost 5 0, BadLost 8 0, BadLost 9 0"},
			trial{"a branch's first child", func(b *book) { b.cell(4, 0).Page = n }, "BadRange 4 0, BadLost 6 0"},
		)
		run(t, chained,
			trial{"a chain's first page", func(b *book) { b.cell(3, 0).Page = n }, "BadRange 3 0, BadLost 4 0, BadLost 5 0, BadLost 6 0"},
			trial{"a chain's next page", func(b *book) { b.with(4, held(n, 496)) }, "BadRange 3 0, BadLost 5 0, BadLost 6 0"},
			trial{"a chain's third page", func(b *book) { b.with(6, held(n, 496)) }, "BadRange 3 0, BadLost 5 0"},
			trial{"another one's", func(b *book) { b.cell(3, 1).Page = n }, "BadRange 3 1, BadLost 7 0"},
		)
		run(t, listing,
			trial{"a list's next page", func(b *book) { b.with(5, list(n, 7, 9)) }, "BadRange 5 0, BadCount 1 1, BadLost 4 0, BadLost 6 0, BadLost 8 0"},
			trial{"the third page", func(b *book) { b.with(4, list(n, 6)) }, "BadRange 4 0, BadLost 8 0"},
			trial{"a page that is listed", func(b *book) { b.with(5, list(4, 7, n)) }, "BadRange 5 1, BadLost 9 0"},
			trial{"the first that is listed", func(b *book) { b.with(4, list(8, n)) }, "BadRange 4 0, BadLost 6 0"},
		)
	}
	run(t, wide,
		trial{"in the catalog", func(b *book) { b.cell(3, 1).Page = 10 }, "BadRange 3 1, BadLost 2 0, BadLost 4 0, BadLost 6 0, BadLost 8 0"},
		trial{"the greatest that may be", func(b *book) {
			b.meta.High, b.cell(9, 0).Page = 16, 15
			b.with(15, b.sheets[7]).with(7, list(0, 10, 11, 12, 13, 14))
			b.meta.Free, b.meta.Listed = 7, 5
		}, ""},
	)
}

// P21.1, BadTwice: a page that was entered before, by whomever; it is gone into no further.
func TestTwice(t *testing.T) {
	run(t, tall,
		trial{"the catalog as a tree", func(b *book) { b.cell(2, 0).Page = 2 }, "BadTwice 2 0, BadLost 3 0, BadLost 4 0, BadLost 5 0, BadLost 6 0, BadLost 7 0, BadLost 8 0, BadLost 9 0"},
		trial{"a child that is its branch", func(b *book) { b.cell(5, 1).Page = 5 }, "BadTwice 5 0, BadLost 9 0"},
		trial{"a child that is its root", func(b *book) { b.cell(5, 1).Page = 3 }, "BadTwice 3 0, BadLost 9 0"},
		trial{"a child that is the catalog", func(b *book) { b.cell(5, 1).Page = 2 }, "BadTwice 2 0, BadLost 9 0"},
		trial{"a child beside it", func(b *book) { b.cell(5, 1).Page = 8 }, "BadTwice 8 0, BadLost 9 0"},
		trial{"a child elsewhere", func(b *book) { b.cell(5, 1).Page = 6 }, "BadTwice 6 0, BadLost 9 0"},
		trial{"a child that comes later stands where it is met first", func(b *book) { b.cell(4, 1).Page = 9 }, "BadOrder 9 0, BadOrder 9 1, BadTwice 9 0, BadLost 7 0"},
		trial{"three times", func(b *book) { b.cell(4, 1).Page, b.cell(5, 0).Page = 6, 6 }, "BadTwice 6 0, BadTwice 6 0, BadLost 7 0, BadLost 8 0"},
		trial{"a bad page that is named twice", func(b *book) {
			b.cell(4, 1).Page = 6
			b.with(6, sheet{})
		}, "BadPage 6 0, BadTwice 6 0, BadLost 7 0"},
	)
	run(t, wide,
		trial{"a tree by two names", func(b *book) { b.cell(9, 1).Page = 7 }, "BadTwice 7 0, BadLost 5 0"},
		trial{"a tree that is a piece of another", func(b *book) { b.cell(9, 1).Page = 6 }, "BadTwice 6 0, BadLost 5 0"},
		trial{"the catalog's children", func(b *book) { b.cell(3, 1).Page, b.meta.High = 9, 4 }, "BadRange 3 0, BadRange 3 1, BadLost 2 0"},
		trial{"the catalog in the catalog", func(b *book) { b.cell(3, 1).Page = 3 }, "BadTwice 3 0, BadLost 2 0, BadLost 4 0, BadLost 6 0, BadLost 8 0"},
	)
	run(t, chained,
		trial{"a chain that begins at its leaf", func(b *book) { b.cell(3, 1).Page = 3 }, "BadTwice 3 0, BadLost 7 0"},
		trial{"a chain that begins at the catalog", func(b *book) { b.cell(3, 1).Page = 2 }, "BadTwice 2 0, BadLost 7 0"},
		trial{"a chain that leads back", func(b *book) { b.with(6, held(4, 496)) }, "BadTwice 4 0, BadLost 5 0"},
		trial{"a chain that stays", func(b *book) { b.with(4, held(4, 496)) }, "BadTwice 4 0, BadLost 5 0, BadLost 6 0"},
		trial{"a chain in another's", func(b *book) { b.cell(3, 1).Page = 5 }, "BadTwice 5 0, BadLost 7 0"},
		trial{"a chain that leads into a tree", func(b *book) { b.with(6, held(3, 496)) }, "BadTwice 3 0, BadLost 5 0"},
		trial{"two chains that are one", func(b *book) { b.cell(3, 1).Page, b.cell(3, 1).Count = 4, 1000 }, "BadTwice 4 0, BadLost 7 0"},
		trial{"a tree that is a page of a chain", func(b *book) {
			b.with(2, leaf(tree("a", 3, 2), tree("b", 7, 1)))
			b.meta.Count = 2
		}, "BadTwice 7 0"},
	)
	run(t, listing,
		trial{"a list that begins at the catalog", func(b *book) { b.meta.Free = 3 }, "BadTwice 3 0, BadCount 1 1, BadLost 4 0, BadLost 5 0, BadLost 6 0, BadLost 7 0, BadLost 8 0, BadLost 9 0"},
		trial{"a list that stays", func(b *book) { b.with(5, list(5, 7, 9)) }, "BadTwice 5 0, BadCount 1 1, BadLost 4 0, BadLost 6 0, BadLost 8 0"},
		trial{"a list that leads back", func(b *book) { b.with(8, list(5)) }, "BadTwice 5 0"},
		trial{"a list that lists itself", func(b *book) { b.with(5, list(4, 5, 7)) }, "BadTwice 5 0, BadLost 9 0"},
		trial{"a list that lists its next page", func(b *book) { b.with(5, list(4, 4, 7)) }, "BadTwice 4 0, BadCount 1 1, BadLost 6 0, BadLost 8 0, BadLost 9 0"},
		trial{"a list that lists the page ahead", func(b *book) { b.with(4, list(8, 5)) }, "BadTwice 5 0, BadLost 6 0"},
		trial{"a page that is listed twice", func(b *book) { b.with(4, list(8, 9)) }, "BadTwice 9 0, BadLost 6 0"},
		trial{"pages in use that are listed", func(b *book) { b.with(5, list(4, 2, 3)) }, "BadTwice 2 0, BadTwice 3 0, BadLost 7 0, BadLost 9 0"},
		trial{"a tree that has a page of the list", func(b *book) { b.cell(2, 0).Page = 5 }, "BadKind 5 0, BadTwice 5 0, BadCount 1 1, BadLost 3 0, BadLost 4 0, BadLost 6 0, BadLost 7 0, BadLost 8 0, BadLost 9 0"},
	)
}

// P21.1, 4: BadLost of what stands nowhere, by rising numbers, behind all else.
func TestLost(t *testing.T) {
	run(t, listing,
		trial{"between others", func(b *book) { b.with(5, list(4, 9)) }, "BadCount 1 1, BadLost 7 0"},
		trial{"at the end", func(b *book) { b.meta.High = 12 }, "BadLost 10 0, BadLost 11 0"},
		trial{"whatever stands there", func(b *book) {
			b.with(5, list(4, 9)).with(7, leaf(values("x")...))
		}, "BadCount 1 1, BadLost 7 0"},
		trial{"nothing but", func(b *book) { b.meta.Root, b.meta.Count, b.meta.Free, b.meta.Listed = 0, 0, 0, 0 }, "BadLost 2 0, BadLost 3 0, BadLost 4 0, BadLost 5 0, BadLost 6 0, BadLost 7 0, BadLost 8 0, BadLost 9 0"},
		trial{"no page at all", func(b *book) {
			b.meta.Root, b.meta.Count, b.meta.Free, b.meta.Listed, b.meta.High = 0, 0, 0, 0, 2
		}, ""},
	)
}
