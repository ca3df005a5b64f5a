package check_test

import (
	"fmt"
	"maps"
	"math/rand"
	"slices"
	"strings"
	"testing"

	"espalier/api"
	"espalier/check"
	"espalier/meta"
)

// drawer draws books: whole ones first, in which something is turned then.
type drawer struct {
	*rand.Rand
	b      *book
	spare  []int // pages that nothing stands in, in no order
	high   int
	height int
}

// take is a page in which nothing stood.
func (d *drawer) take() int {
	n := d.spare[0]
	d.spare = d.spare[1:]
	return n
}

// drawn is a whole book: trees of all heights up to four, long values, a list.
func drawn(r *rand.Rand, engine int) *book {
	size := 512 << r.Intn(2)
	d := &drawer{Rand: r, high: 70 + r.Intn(40)}
	d.b = &book{size, d.high + r.Intn(5), api.Meta{Engine: engine, Page: size, Txn: 1 + r.Intn(9), High: d.high}, map[int]sheet{}}
	for _, n := range r.Perm(d.high - 2) {
		d.spare = append(d.spare, n+2)
	}
	names := d.keys(r.Intn(8), "ab/-_.09")
	var cells []api.Cell
	for _, name := range names {
		root, count := 0, 0
		if r.Intn(4) > 0 && len(d.spare) > 45 {
			root, count = d.tree(d.pairs(1 + r.Intn(12)))
		}
		cells = append(cells, tree(name, root, count))
	}
	d.b.meta.Root, d.b.meta.Count = d.tree(cells)
	d.list()
	return d.b
}

// keys are so many keys of these letters, rising.
func (d *drawer) keys(n int, letters string) []string {
	l := map[string]int{}
	for len(l) < n {
		s := ""
		for range 1 + d.Intn(4) {
			s += string(letters[d.Intn(len(letters))])
		}
		l[s] = 1
	}
	var keys []string
	for s := range l {
		keys = append(keys, s)
	}
	slices.Sort(keys)
	return keys
}

func (d *drawer) pairs(n int) []api.Cell {
	var cells []api.Cell
	for _, k := range d.keys(n, "mnABx\x00\xff") {
		if d.Intn(6) > 0 || len(d.spare) < 40 {
			cells = append(cells, value(k, string(text(d.Intn(20)))))
			continue
		}
		most := d.b.size / 16 * 3
		v := text(most + 1 + d.Intn(3*d.b.size))
		cells = append(cells, long(k, d.chain(v), len(v)))
	}
	return cells
}

func (d *drawer) chain(v []byte) int {
	at := d.take()
	first := at
	for hold := d.b.size - 16; len(v) > hold; v = v[hold:] {
		next := d.take()
		d.b.with(at, chainOf(next, v[:hold]))
		at = next
	}
	d.b.with(at, chainOf(0, v))
	return first
}

// tree lays cells into leaves, and these below branches, level by level: the root, and how many cells there are.
func (d *drawer) tree(cells []api.Cell) (int, int) {
	if len(cells) == 0 {
		return 0, 0
	}
	kind, count := api.PageLeaf, len(cells)
	for {
		parts := d.parts(cells)
		var up []api.Cell
		for _, part := range parts {
			at, below := d.take(), len(part)
			key := string(part[0].Key)
			if kind == api.PageBranch {
				below = 0
				for _, c := range part {
					below += c.Count
				}
				part[0].Key = nil
			}
			d.b.with(at, sheet{kind: kind, cells: part})
			up = append(up, child(key, at, below))
		}
		if len(up) == 1 {
			return up[0].Page, count
		}
		up[0].Key = nil
		cells, kind = up, api.PageBranch
	}
}

// parts cuts cells into runs of two or more; into one, now and then.
func (d *drawer) parts(cells []api.Cell) [][]api.Cell {
	var l [][]api.Cell
	for len(cells) > 3 && (len(l) > 0 || d.Intn(3) > 0) {
		n := 2 + d.Intn(min(3, len(cells)-3))
		l = append(l, slices.Clone(cells[:n]))
		cells = cells[n:]
	}
	return append(l, slices.Clone(cells))
}

// list lists all pages that are left.
func (d *drawer) list() {
	next := 0
	for len(d.spare) > 0 {
		at := d.take()
		n := d.Intn(1 + min(len(d.spare), 40))
		pages := slices.Sorted(slices.Values(d.spare[:n]))
		d.spare = d.spare[n:]
		d.b.with(at, list(next, pages...))
		d.b.meta.Listed += n
		next = at
	}
	d.b.meta.Free = next
}

// anyPage is a page's number, mostly one below High.
func (d *drawer) anyPage() int { return 2 + d.Intn(d.high-1+d.Intn(2)*3) }

// turn turns something in the book; it may have no image then.
func (d *drawer) turn() {
	pages := slices.Sorted(maps.Keys(d.b.sheets))
	if len(pages) == 0 || d.Intn(10) == 0 {
		d.turnMeta()
		return
	}
	at := pages[d.Intn(len(pages))]
	s := d.b.sheets[at]
	switch d.Intn(6) {
	case 0:
		s = d.otherSheet(s)
	case 1:
		// A leaf for a branch, or the other way round: leaves stand at unlike depths then.
		s = d.b.sheets[pages[d.Intn(len(pages))]]
	default:
		s = d.turnIn(s)
	}
	d.b.sheets[at] = s
}

func (d *drawer) turnMeta() {
	m := &d.b.meta
	switch d.Intn(6) {
	case 0:
		m.Count = max(0, m.Count+d.Intn(3)-1)
	case 1:
		m.Listed = max(0, m.Listed+d.Intn(3)-1)
	case 2:
		m.High += d.Intn(5) - 2
	case 3:
		m.Root = d.anyPage()
	case 4:
		m.Free = d.anyPage()
	case 5:
		m.Engine = 3 - m.Engine
	}
}

// otherSheet is something else in the place of a sheet.
func (d *drawer) otherSheet(s sheet) sheet {
	switch d.Intn(9) {
	case 0:
		return sheet{}
	case 1:
		return held(d.Intn(2)*d.anyPage(), 1+d.Intn(d.b.size-16))
	case 2:
		return list(d.Intn(2)*d.anyPage(), slices.Sorted(slices.Values([]int{d.anyPage(), d.anyPage()}))...)
	case 3:
		return metaPage(1+d.Intn(2), d.b.size)
	case 4:
		return s.of(3 - d.b.meta.Engine)
	case 5:
		return s.turn(1 + d.Intn(d.b.size-1))
	case 6:
		return leaf(values(d.keys(d.Intn(4), "amz")...)...)
	case 7:
		return branch(child("", d.anyPage(), 1+d.Intn(3)), child("b", d.anyPage(), 1+d.Intn(3)))
	}
	return d.b.sheets[d.anyPage()]
}

// turnIn turns something in a sheet.
func (d *drawer) turnIn(s sheet) sheet {
	switch s.kind {
	case api.PageSpill:
		if d.Intn(2) == 0 {
			s.next = d.Intn(2) * d.anyPage()
			return s
		}
		s.data = text(max(1, len(s.data)+d.Intn(3)-1))
	case api.PageFree:
		s.listed = slices.Clone(s.listed)
		if len(s.listed) == 0 || d.Intn(3) == 0 {
			s.next = d.Intn(2) * d.anyPage()
			return s
		}
		s.listed[d.Intn(len(s.listed))] = d.anyPage()
		slices.Sort(s.listed)
	case api.PageLeaf, api.PageBranch:
		s.cells = slices.Clone(s.cells)
		d.turnCells(&s)
	}
	return s
}

func (d *drawer) turnCells(s *sheet) {
	if len(s.cells) == 0 {
		return
	}
	i := d.Intn(len(s.cells))
	c := &s.cells[i]
	switch d.Intn(9) {
	case 0, 1:
		c.Count = max(1, c.Count+d.Intn(3)-1)
	case 2, 3:
		c.Page = d.anyPage()
	case 4, 5:
		c.Key = []byte(d.keys(1, "mnABx\x00\xffab/")[0])
	case 6:
		s.cells = slices.Delete(s.cells, i, i+1)
	case 7:
		*c = []api.Cell{value(string(c.Key), "v"), tree(string(c.Key), d.anyPage(), 1), tree(string(c.Key), 0, 0), long(string(c.Key), d.anyPage(), 97+d.Intn(2000))}[d.Intn(4)]
	case 8:
		s.cells = s.cells[:1]
	}
}

// lines are what a reader has found of the trees.
func (r *reader) lines() []string {
	var l []string
	for _, name := range r.names {
		l = append(l, name+": "+strings.Join(r.trees[name], ","))
	}
	return l
}

func linesOf(names []string, trees [][]api.Pair) []string {
	var l []string
	for i, name := range names {
		var pairs []string
		for _, p := range trees[i] {
			pairs = append(pairs, string(p.Key)+"="+string(p.Value))
		}
		l = append(l, name+": "+strings.Join(pairs, ","))
	}
	return l
}

// against holds all four answers to an image against the reader's.
func against(t *testing.T, what string, image []byte, size int) *reader {
	t.Helper()
	r := read(image, size)
	looksAt(t, what, image, size, told(r.faults))
	used, listed, free, e := check.Reach(image, size)
	names, trees, f := check.Trees(image, size)
	want := api.OK
	switch {
	case len(r.faults) > 0 && r.faults[0].What == 1:
		want = api.ErrNoMeta
	case len(r.faults) > 0:
		want = api.ErrLost
	}
	sameList(t, what+": the errors of Reach and Trees", []api.Errno{e, f}, []api.Errno{want, want})
	if want == api.OK {
		same(t, what+": Reach", fmt.Sprint(used, listed, free), fmt.Sprint(r.standing("used"), r.standing("list"), r.standing("listed")))
		sameList(t, what+": Trees", linesOf(names, trees), r.lines())
	} else {
		same(t, what+": beside the errors", fmt.Sprint(used, listed, free, names, trees), "[] [] [] [] []")
	}
	return r
}

// P21.1 to P21.3, P21.5: images that are drawn whole have no fault; in each something is turned, once, twice, three times.
func TestDrawn(t *testing.T) {
	met := map[int]int{}
	both(t, func(t *testing.T, engine int) {
		r := chance(int64(21 + engine))
		for i := range 150 {
			b := drawn(r, engine)
			what := fmt.Sprint("book ", i)
			whole := against(t, what, imageOf(t, b), b.size)
			same(t, what+" is whole", told(whole.faults), "")
			for range 12 {
				d := &drawer{Rand: r, b: b.copied(), high: b.meta.High}
				for range 1 + r.Intn(3) {
					d.turn()
				}
				image, e := d.b.image()
				if e != api.OK {
					continue
				}
				for _, f := range against(t, what+", turned", image, b.size).faults {
					met[f.What]++
				}
			}
			if t.Failed() {
				return
			}
		}
	})
	for what := 1; what <= 12; what++ {
		if met[what] < 10 {
			t.Errorf("%s was met %d times", nameOf(what), met[what])
		}
	}
}

func (b *book) copied() *book {
	c := *b
	c.sheets = map[int]sheet{}
	for n, s := range b.sheets {
		c.sheets[n] = s
	}
	return &c
}

// P21.1: of images whose pages are drawn one by one, each good, and with no sense in them.
func TestDrawnPages(t *testing.T) {
	both(t, func(t *testing.T, engine int) {
		r := chance(int64(77 + engine))
		for i := range 2000 {
			high := 4 + r.Intn(10)
			b := &book{512, high + r.Intn(2), api.Meta{}, map[int]sheet{}}
			d := &drawer{Rand: r, b: b, high: high}
			b.meta = api.Meta{Engine: engine, Page: 512, Txn: r.Intn(3), Root: 2, Count: 1 + r.Intn(3), High: high}
			if r.Intn(2) == 0 {
				b.meta.Free, b.meta.Listed = 3, r.Intn(3)
			}
			for n := 2; n < high; n++ {
				b.with(n, d.anySheet(n))
			}
			if meta.Check(b.meta) != api.OK {
				continue
			}
			image, e := b.image()
			if e == api.OK {
				against(t, fmt.Sprint("pages ", i), image, 512)
			}
		}
	})
}

// anySheet is a good page of any sort; those ahead of the others are mostly nodes.
func (d *drawer) anySheet(n int) sheet {
	if n == 2 && d.Intn(2) == 0 {
		return leaf(tree("a", d.anyPage(), 1+d.Intn(4)), tree("b", d.anyPage(), 1+d.Intn(4)))
	}
	if n == 3 && d.Intn(2) == 0 {
		return list(d.Intn(2)*d.anyPage(), d.anyPage())
	}
	switch d.Intn(8) {
	case 0, 1:
		return branch(child(d.rarelyOther(""), d.anyPage(), 1+d.Intn(4)), child("b", d.anyPage(), 1+d.Intn(4)), child("m", d.anyPage(), 1+d.Intn(4)))
	case 2, 3:
		return leaf(values(d.keys(d.Intn(4), "abmn")...)...)
	case 4:
		return leaf(tree("a", d.anyPage(), 1+d.Intn(4)), long("n", d.anyPage(), 97+d.Intn(900)), long("o", d.anyPage(), 97+d.Intn(900)))
	}
	return d.otherSheet(leaf(values("k")...))
}

// rarelyOther is a text, or, one time in twenty, another one.
func (d *drawer) rarelyOther(s string) string {
	if d.Intn(20) == 0 {
		return "a"
	}
	return s
}
