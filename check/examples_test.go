package check_test

import (
	"fmt"
	"testing"

	"espalier/api"
	"espalier/check"
)

// The first table of the chapter, row by row.
func TestExamplesOfLook(t *testing.T) {
	l, e := check.Look(make([]byte, 8*512), 512)
	same(t, "zeros", told(l)+fmt.Sprint(" ", e), "BadMeta 0 0 0")
	run(t, small,
		trial{"a meta of commit 0", func(b *book) {
			b.meta = api.Meta{Engine: b.meta.Engine, Page: 512, High: 2}
			b.sheets = nil
		}, ""},
		trial{"M", func(b *book) {}, ""},
		trial{"M with Count 3 in the cell", func(b *book) { b.cell(2, 0).Count = 3 }, "BadCount 2 0"},
		trial{"M with High 5", func(b *book) { b.meta.High = 5 }, "BadLost 4 0"},
		trial{"M with Page 2 in the cell", func(b *book) { b.cell(2, 0).Page = 2 }, "BadTwice 2 0, BadLost 3 0"},
		trial{"M with Page 7 in the cell", func(b *book) { b.cell(2, 0).Page = 7 }, "BadRange 2 0, BadLost 3 0"},
		trial{"M with the key A", func(b *book) { b.cell(2, 0).Key = []byte("A") }, "BadCell 2 0, BadLost 3 0"},
		trial{"M, page 3 a leaf of x alone", func(b *book) {
			b.with(3, leaf(values("x")...))
			b.cell(2, 0).Count = 1
		}, ""},
		trial{"M, page 3 a list page", func(b *book) { b.with(3, list(0)) }, "BadKind 3 0"},
		trial{"M with Free 3, Listed 0", func(b *book) { b.meta.Free = 3 }, "BadTwice 3 0"},
		trial{"M with Listed 1, Free 4, High 6", func(b *book) {
			b.meta.Listed, b.meta.Free, b.meta.High = 1, 4, 6
			b.with(4, list(0, 5))
		}, ""},
	)
	_, e = check.Look(make([]byte, 511), 512)
	same(t, "511 bytes", e, api.ErrImage)
	_, e = check.Look(make([]byte, 4000), 500)
	same(t, "a page of 500", e, api.ErrImage)
}

// The second table of the chapter, row by row.
func TestExamplesOfTheOthers(t *testing.T) {
	both(t, func(t *testing.T, engine int) {
		m := imageOf(t, small(engine))
		used, listed, free, e := check.Reach(m, 512)
		same(t, "Reach(M)", fmt.Sprint(used, listed, free, int(e)), "[2 3] [] [] 0")
		b := small(engine).with(4, list(0, 5))
		b.meta.Listed, b.meta.Free, b.meta.High = 1, 4, 6
		used, listed, free, e = check.Reach(imageOf(t, b), 512)
		same(t, "Reach of the last but one image", fmt.Sprint(used, listed, free, int(e)), "[2 3] [4] [5] 0")
		names, pairs, e := check.Trees(m, 512)
		same(t, "Trees(M)", fmt.Sprintf("%s %s %d", names, pairs, e), "[a] [[{x 1} {y }]] 0")
		cells, e := check.Salvage(m, 512)
		sameList(t, "Salvage(M)", asTexts(cells), asTexts([]api.Cell{tree("a", 3, 2), value("x", "1"), value("y", "")}))
		same(t, "Salvage(M)", e, api.OK)
		b = small(engine)
		b.meta.High = 5
		for image, want := range map[string]api.Errno{string(imageOf(t, b)): api.ErrLost, string(make([]byte, 8*512)): api.ErrNoMeta} {
			_, _, _, e = check.Reach([]byte(image), 512)
			same(t, "Reach that is refused", e, want)
			_, _, e = check.Trees([]byte(image), 512)
			same(t, "Trees that is refused", e, want)
		}
	})
}
