package bulk_test

import (
	"bytes"
	"fmt"
	"slices"
	"testing"

	"espalier/api"
	"espalier/bulk"
	"espalier/cursor"
	"espalier/node"
	"espalier/tree"
)

// looker holds the pages that are reached from a root against I1 to I5, and against the fill.
type looker struct {
	t      *testing.T
	what   string
	r      api.Room
	fill   int
	levels int
	cells  []api.Cell
	pages  []int
}

func (l *looker) wrong(form string, args ...any) {
	l.t.Helper()
	l.t.Fatalf("%s: %s", l.what, fmt.Sprintf(form, args...))
}

// look looks at a page, below which all keys stand from lo on and ahead of hi (nil: there is no such bound).
func (l *looker) look(page, depth int, lo, hi []byte) {
	l.t.Helper()
	b, e := l.r.Read(page)
	engine, kind, cells, f := node.Decode(b)
	if e != api.OK || f != api.OK || engine != l.r.Engine() || len(b) != l.r.Size() {
		l.wrong("page %d can't be read: %d, %d", page, e, f)
	}
	l.pages = append(l.pages, page)
	if isRoot := depth == 1; len(cells) < 2 && !(isRoot && kind == api.PageLeaf && len(cells) == 1) {
		l.wrong("I4, I5: page %d has %d cells", page, len(cells))
	}
	if full := node.Fill(engine, kind, cells, len(b)); full > l.fill && len(cells) > 3 {
		l.wrong("P14.3: page %d of %d cells is full to %d, above %d", page, len(cells), full, l.fill)
	}
	if kind == api.PageBranch {
		l.lookBelow(page, depth, cells, lo, hi)
		return
	}
	for _, c := range cells {
		if bytes.Compare(c.Key, lo) < 0 || hi != nil && bytes.Compare(c.Key, hi) >= 0 {
			l.wrong("I2: page %d: %q beyond its bounds %q, %q", page, c.Key, lo, hi)
		}
	}
	if l.levels == 0 {
		l.levels = depth
	}
	if depth != l.levels {
		l.wrong("I1: leaf %d at depth %d, not %d", page, depth, l.levels)
	}
	l.cells = append(l.cells, cells...)
}

func (l *looker) lookBelow(page, depth int, cells []api.Cell, lo, hi []byte) {
	l.t.Helper()
	for i, c := range cells {
		if i == 0 && len(c.Key) > 0 {
			l.wrong("I2: branch %d begins with %q", page, c.Key)
		}
		from, to := lo, hi
		if i > 0 {
			from = c.Key
		}
		if i+1 < len(cells) {
			to = cells[i+1].Key
		}
		was := len(l.cells)
		l.look(c.Page, depth+1, from, to)
		if n := len(l.cells) - was; n != c.Count {
			l.wrong("I3: branch %d, cell %d: %d, not %d", page, i, c.Count, n)
		}
	}
}

// grows holds what was built against P14.3: a good tree of just these cells, found by key, by place, and by a cursor either way. It tells how many levels and pages there are.
func grows(t *testing.T, what string, r api.Room, root int, cells []api.Cell, fill int) (int, int) {
	t.Helper()
	l := &looker{t: t, what: what, r: r, fill: fill}
	if root != 0 {
		l.look(root, 1, nil, nil)
	}
	sameCells(t, what, l.cells, cells)
	slices.Sort(l.pages)
	pages, e := tree.Pages(r, root)
	same(t, what+": Pages", e, api.OK)
	sameList(t, what+": Pages", pages, l.pages)
	height, e := tree.Height(r, root)
	same(t, what+": Height", e, api.OK)
	same(t, what+": Height", height, l.levels)
	n, e := tree.Len(r, root)
	same(t, what+": Len", e, api.OK)
	same(t, what+": Len", n, len(cells))
	for i, c := range cells {
		for _, x := range []func() (api.Cell, bool, api.Errno){
			func() (api.Cell, bool, api.Errno) { return tree.Get(r, root, c.Key) },
			func() (api.Cell, bool, api.Errno) { return tree.At(r, root, i) },
		} {
			got, is, e := x()
			same(t, what+": Get, At", e, api.OK)
			same(t, what+": Get, At", is, true)
			sameCells(t, what+": Get, At", row(got), row(c))
		}
		n, e := tree.Rank(r, root, c.Key)
		same(t, what+": Rank", e, api.OK)
		same(t, what+": Rank", n, i)
	}
	scans(t, what, r, root, cells)
	return l.levels, len(l.pages)
}

// scans goes through the tree by a cursor either way.
func scans(t *testing.T, what string, r api.Room, root int, cells []api.Cell) {
	t.Helper()
	for _, reverse := range []bool{false, true} {
		var got []api.Cell
		for c, e := range cursor.Scan(r, root, nil, nil, reverse) {
			same(t, what+": Scan", e, api.OK)
			got = append(got, c)
		}
		want := slices.Clone(cells)
		if reverse {
			slices.Reverse(want)
		}
		sameCells(t, what+": Scan", got, want)
	}
}

// P14.3: none, one, two, three, four and more cells, of either engine and several sizes.
func TestGoodTreesOfFewCells(t *testing.T) {
	for _, engine := range engines() {
		for _, size := range []int{512, 1024, 4096, 65536} {
			for _, fill := range []int{128, 200, 256} {
				for n := range 14 {
					// Three values of these are above half a page.
					cells := numbered(n, "k", long(size/16*3-size/64))
					s := newShelf(engine, size, 0)
					root := builds(t, "few", s, cells, fill)
					s.acts = nil
					levels, pages := grows(t, "few", s, root, cells, fill)
					if n == 0 {
						same(t, "none: pages", pages, 0)
					}
					if n > 0 && n < 4 {
						same(t, "one page: levels", levels, 1)
						same(t, "one page: pages", pages, 1)
					}
				}
			}
		}
	}
}

// P14.3: trees of several levels.
func TestGoodTreesOfManyLevels(t *testing.T) {
	for _, x := range []struct {
		what         string
		engine, size int
		cells        []api.Cell
		fill, levels int // so many at least
	}{
		{"plain, long keys", api.Plain, 512, numbered(3000, long(62), long(90)), 128, 7},
		{"plain, full pages", api.Plain, 512, numbered(3000, long(62), long(9)), 256, 5},
		{"plain, short keys", api.Plain, 512, numbered(5000, "", "v"), 200, 3},
		{"plain, greater pages", api.Plain, 1024, numbered(3000, long(126), long(180)), 128, 7},
		{"packed, what is shared stands once", api.Packed, 512, numbered(3000, long(62), long(96)), 128, 4},
		{"packed, nothing is shared", api.Packed, 512, borders(2000, 64, 90), 128, 7},
		{"packed, full pages", api.Packed, 512, borders(2000, 64, 90), 256, 5},
		{"packed, greater pages", api.Packed, 2048, borders(2000, 256, 380), 128, 6},
		{"packed, short keys", api.Packed, 512, numbered(5000, "", "v"), 200, 3},
	} {
		s := newShelf(x.engine, x.size, 0)
		s.pick = scattered(chance())
		root := builds(t, x.what, s, x.cells, x.fill)
		s.acts = nil
		levels, _ := grows(t, x.what, s, root, x.cells, x.fill)
		if levels < x.levels {
			t.Errorf("%s: %d levels, want %d at least", x.what, levels, x.levels)
		}
	}
}

// borders are 2 * n cells in pairs whose keys have a long beginning alike, but not with those of other pairs; one cell ahead of them makes leaves of two cells begin within pairs. So keys of branches are long, and share nothing.
func borders(n, key, v int) []api.Cell {
	cells := row(value("\x00", long(v)))
	for i := range n {
		begin := string([]byte{byte(1 + i/250), byte(1 + i%250)}) + long(key-3)
		cells = append(cells, value(begin+"a", long(v)), value(begin+"b", long(v)))
	}
	return cells
}

// P14.3: a tree that was built is changed as any other one.
func TestBuiltTreesAreChanged(t *testing.T) {
	for _, engine := range engines() {
		for _, fill := range []int{128, 256} {
			cells := numbered(400, long(30), long(20))
			r := api.NewBench(engine, 512, 2000)
			root, _, e := bulk.Build(r, slices.Values(cells), fill)
			same(t, "Build", e, api.OK)
			for i := 0; i < len(cells); i += 3 {
				root, _, _, e = tree.Delete(r, root, cells[i].Key)
				same(t, "Delete", e, api.OK)
				c := value(string(cells[i].Key)+"+", "new")
				root, _, _, e = tree.Put(r, root, c)
				same(t, "Put", e, api.OK)
				cells[i] = c
			}
			grows(t, "changed", r, root, cells, 256)
			same(t, "Drop", tree.Drop(r, root), api.OK)
			sameList(t, "pages behind Drop", r.Taken(), nil)
		}
	}
}
