package check_test

import (
	"fmt"
	"math/rand"
	"slices"
	"strings"
	"testing"

	"espalier/api"
	"espalier/check"
	"espalier/free"
	"espalier/ink"
	"espalier/meta"
	"espalier/node"
	"espalier/spill"
)

// chance is the same row of numbers in every run.
func chance(seed int64) *rand.Rand { return rand.New(rand.NewSource(seed)) }

func same[T comparable](t *testing.T, what string, got, want T) {
	if got != want {
		t.Helper()
		t.Errorf("%s: %v, want %v", what, got, want)
	}
}

func sameList[T comparable](t *testing.T, what string, got, want []T) {
	if !slices.Equal(got, want) {
		t.Helper()
		t.Errorf("%s: %v, want %v", what, got, want)
	}
}

// stop ends the test, if one of these is an error.
func stop(t *testing.T, what string, errors ...api.Errno) {
	for _, e := range errors {
		if e != api.OK {
			t.Helper()
			t.Fatalf("%s: %d", what, e)
		}
	}
}

func both(t *testing.T, try func(t *testing.T, engine int)) {
	t.Run("plain", func(t *testing.T) { try(t, api.Plain) })
	t.Run("packed", func(t *testing.T) { try(t, api.Packed) })
}

// sheet is what a page is to have: cells of a leaf or a branch, the bytes of a page of a chain, those that a page of the list lists, a meta, or any bytes.
type sheet struct {
	kind   int
	engine int // 0: the book's
	cells  []api.Cell
	next   int
	data   []byte
	listed []int
	meta   api.Meta
	raw    []byte
	turned int // a byte that is another one then; 0: none
}

func leaf(cells ...api.Cell) sheet   { return sheet{kind: api.PageLeaf, cells: cells} }
func branch(cells ...api.Cell) sheet { return sheet{kind: api.PageBranch, cells: cells} }
func list(next int, listed ...int) sheet {
	return sheet{kind: api.PageFree, next: next, listed: listed}
}
func bytesAs(b []byte) sheet              { return sheet{raw: b} }
func (s sheet) of(engine int) sheet       { s.engine = engine; return s }
func (s sheet) turn(at int) sheet         { s.turned = at; return s }
func held(next, n int) sheet              { return sheet{kind: api.PageSpill, next: next, data: text(n)} }
func chainOf(next int, data []byte) sheet { return sheet{kind: api.PageSpill, next: next, data: data} }
func metaOf(m api.Meta) sheet             { return sheet{kind: api.PageMeta, meta: m} }

// text is so many bytes, which are unlike.
func text(n int) []byte {
	b := make([]byte, n)
	for i := range b {
		b[i] = byte(i*7 + i>>8)
	}
	return b
}

func value(key, value string) api.Cell {
	return api.Cell{Key: []byte(key), Kind: api.CellValue, Value: []byte(value)}
}

// values are cells of these keys, with little in them.
func values(keys ...string) []api.Cell {
	var l []api.Cell
	for _, k := range keys {
		l = append(l, value(k, "of "+k))
	}
	return l
}

func long(key string, page, count int) api.Cell {
	return api.Cell{Key: []byte(key), Kind: api.CellSpill, Page: page, Count: count}
}

func tree(name string, page, count int) api.Cell {
	return api.Cell{Key: []byte(name), Kind: api.CellTree, Page: page, Count: count}
}

func child(key string, page, count int) api.Cell {
	return api.Cell{Key: []byte(key), Kind: api.CellChild, Page: page, Count: count}
}

// bytes are the page's; an error, where there is no such page.
func (s sheet) bytes(engine, size int) ([]byte, api.Errno) {
	var b []byte
	e := api.OK
	if s.engine != 0 {
		engine = s.engine
	}
	switch s.kind {
	case api.PageLeaf, api.PageBranch:
		b, e = node.Encode(engine, s.kind, s.cells, size)
	case api.PageSpill:
		b, e = spill.Encode(s.next, s.data, size)
	case api.PageFree:
		b, e = free.Encode(s.next, s.listed, size)
	case api.PageMeta:
		b, e = meta.Encode(s.meta)
	default:
		b = s.raw
	}
	if e == api.OK && s.turned > 0 && s.turned < len(b) {
		b[s.turned] ^= 1
	}
	return b, e
}

// book is what an image is to have.
type book struct {
	size, pages int
	meta        api.Meta
	sheets      map[int]sheet
}

func (b *book) with(n int, s sheet) *book {
	b.sheets[n] = s
	return b
}

// cell is a cell of a page, to be turned.
func (b *book) cell(n, i int) *api.Cell { return &b.sheets[n].cells[i] }

// image lays the book's pages; an error, where one of them is none.
func (b *book) image() ([]byte, api.Errno) {
	out := make([]byte, b.size*b.pages)
	m, e := meta.Encode(b.meta)
	if e != api.OK {
		return nil, e
	}
	copy(out[meta.Slot(b.meta.Txn)*b.size:], m)
	for n, s := range b.sheets {
		p, e := s.bytes(b.meta.Engine, b.size)
		if e != api.OK {
			return nil, e
		}
		copy(out[n*b.size:(n+1)*b.size], p)
	}
	return out, api.OK
}

func imageOf(t *testing.T, b *book) []byte {
	t.Helper()
	image, e := b.image()
	stop(t, "an image", e)
	return image
}

// small is M of the chapter's examples: a catalog in page 2, which tells the tree a in page 3, of x and y.
func small(engine int) *book {
	return &book{512, 8, api.Meta{Engine: engine, Page: 512, Txn: 2, Root: 2, Count: 1, High: 4}, map[int]sheet{
		2: leaf(tree("a", 3, 2)),
		3: leaf(value("x", "1"), value("y", "")),
	}}
}

// tall has a tree three pages deep: its root 3, the branches 4 and 5, the leaves 6 to 9.
func tall(engine int) *book {
	return &book{512, 16, api.Meta{Engine: engine, Page: 512, Txn: 3, Root: 2, Count: 1, High: 10}, map[int]sheet{
		2: leaf(tree("a", 3, 8)),
		3: branch(child("", 4, 4), child("m", 5, 4)),
		4: branch(child("", 6, 2), child("d", 7, 2)),
		5: branch(child("", 8, 2), child("s", 9, 2)),
		6: leaf(values("a", "b")...),
		7: leaf(values("d", "e")...),
		8: leaf(values("m", "n")...),
		9: leaf(values("s", "t")...),
	}}
}

// chained has a value of 1000 bytes, in the pages 4, 6 and 5, and one of 97 in page 7.
func chained(engine int) *book {
	b := small(engine)
	b.pages, b.meta.High = 12, 8
	return b.with(3, leaf(long("x", 4, 1000), long("y", 7, 97))).
		with(4, held(6, 496)).with(6, held(5, 496)).with(5, held(0, 8)).with(7, held(0, 97))
}

// listing has a free list in the pages 5 and 4, which lists 7 and 9, then 6.
func listing(engine int) *book {
	b := small(engine)
	b.pages, b.meta.Free, b.meta.Listed, b.meta.High = 12, 5, 3, 10
	b.meta.Txn = 7
	return b.with(5, list(4, 7, 9)).with(4, list(8, 6)).with(8, list(0))
}

// wide has a catalog of two pages below a branch, and the trees a to d: c is empty, and d has two pages.
func wide(engine int) *book {
	return &book{512, 16, api.Meta{Engine: engine, Page: 512, Txn: 4, Root: 3, Count: 4, High: 10}, map[int]sheet{
		3: branch(child("", 9, 2), child("b/", 2, 2)),
		9: leaf(tree("a", 7, 1), tree("b", 5, 2)),
		2: leaf(tree("c", 0, 0), tree("d", 4, 4)),
		7: leaf(values("k")...),
		5: leaf(values("k", "l")...),
		4: branch(child("", 6, 2), child("m", 8, 2)),
		6: leaf(values("k", "l")...),
		8: leaf(values("m", "n")...),
	}}
}

// names are those of the faults, by their numbers.
func nameOf(what int) string {
	names := strings.Fields("none BadMeta BadPage BadKind BadTwice BadLost BadRange BadOrder BadCount BadDepth BadThin BadCell BadChain")
	if what < 1 || what >= len(names) {
		return fmt.Sprint(what)
	}
	return names[what]
}

// told are faults as a text: the name, the page, the cell of each.
func told(l []api.Fault) string {
	var s []string
	for _, f := range l {
		s = append(s, fmt.Sprint(nameOf(f.What), " ", f.Page, " ", f.Cell))
	}
	return strings.Join(s, ", ")
}

// looks holds what Look tells of a book against a text.
func looks(t *testing.T, what string, b *book, want string) {
	t.Helper()
	l, e := check.Look(imageOf(t, b), b.size)
	same(t, what+": the error", e, api.OK)
	same(t, what, told(l), want)
}

// trial is a book that is turned, and what Look has to tell of it.
type trial struct {
	what string
	turn func(b *book)
	want string
}

func run(t *testing.T, base func(engine int) *book, trials ...trial) {
	t.Helper()
	both(t, func(t *testing.T, engine int) {
		for _, x := range trials {
			b := base(engine)
			x.turn(b)
			looks(t, x.what, b, x.want)
		}
	})
}

// asText is a cell, all that it has.
func asText(c api.Cell) string {
	return fmt.Sprintf("%q %d %q %d %d", c.Key, c.Kind, c.Value, c.Page, c.Count)
}

func asTexts(l []api.Cell) []string {
	var s []string
	for _, c := range l {
		s = append(s, asText(c))
	}
	return s
}

// summed makes a page's sum right.
func summed(b []byte) []byte {
	at := len(b) - 4
	copy(b[at:], ink.Fixed(uint64(ink.Sum(b[:at])), 4))
	return b
}

// looksAt holds what Look tells of an image against a text.
func looksAt(t *testing.T, what string, image []byte, size int, want string) {
	t.Helper()
	l, e := check.Look(image, size)
	same(t, what+": the error", e, api.OK)
	same(t, what, told(l), want)
}
