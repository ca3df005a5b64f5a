package node_test

import (
	"math"
	"math/rand"
	"slices"
	"strconv"
	"testing"

	"espalier/api"
	"espalier/node"
)

// sides are the two of a cut at k.
func sides(kind int, cells []api.Cell, k int) ([]api.Cell, []api.Cell) {
	left, right := slices.Clone(cells[:k]), slices.Clone(cells[k:])
	if kind == api.PageBranch {
		right[0].Key = nil
	}
	return left, right
}

func greaterSize(engine, kind int, cells []api.Cell, k int) int {
	left, right := sides(kind, cells, k)
	return max(size(engine, kind, left), size(engine, kind, right))
}

// mayCut tells whether both sides of a cut at k fit.
func mayCut(engine, kind int, cells []api.Cell, k, page int) bool {
	left, right := sides(kind, cells, k)
	return wanted(engine, kind, left, page) == api.OK && wanted(engine, kind, right, page) == api.OK
}

// searched is Half by a search over every cut; and how many are as good as the best.
func searched(engine, kind int, cells []api.Cell, page int) (at int, e api.Errno, alike int) {
	if !isEngine(engine) {
		return 0, api.ErrEngine, 0
	}
	if !isKind(kind) || !isSize(page) {
		return 0, api.ErrArg, 0
	}
	e = api.ErrFit
	best := 0
	for k := 2; k <= len(cells)-2; k++ {
		if !mayCut(engine, kind, cells, k, page) {
			continue
		}
		switch n := greaterSize(engine, kind, cells, k); {
		case e != api.OK || n < best:
			at, e, best, alike = k, api.OK, n, 1
		case n == best:
			alike++
		}
	}
	return at, e, alike
}

// halves holds Half against the search.
func halves(t *testing.T, what string, engine, kind int, cells []api.Cell, page int) (int, api.Errno, int) {
	t.Helper()
	at, e, alike := searched(engine, kind, cells, page)
	got, f := node.Half(engine, kind, cells, page)
	same(t, what+": Half", f, e)
	same(t, what+": Half's place", got, at)
	return at, e, alike
}

// leafOf are value cells that take so many bytes each, with their slots, in a plain leaf.
func leafOf(bytes ...int) []api.Cell {
	var cells []api.Cell
	for i, n := range bytes {
		cells = append(cells, value(string([]byte{byte('a' + i)}), long(n-8)))
	}
	return cells
}

// branchOf are children with keys of so many bytes.
func branchOf(bytes ...int) []api.Cell {
	var cells []api.Cell
	for i, n := range bytes {
		key := ""
		if n > 0 {
			key = string([]byte{byte('a' + i)}) + long(n-1)
		}
		cells = append(cells, child(key, 2+i, 1))
	}
	return cells
}

// P8.5: cuts that can be told by hand.
func TestHalfByHand(t *testing.T) {
	for _, x := range []struct {
		what         string
		engine, kind int
		cells        []api.Cell
		at           int
		want         api.Errno
	}{
		{"none", 1, 2, nil, 0, api.ErrFit},
		{"one", 1, 2, leafOf(9), 0, api.ErrFit},
		{"two", 1, 2, leafOf(9, 9), 0, api.ErrFit},
		{"three", 2, 2, leafOf(9, 9, 9), 0, api.ErrFit},
		{"four", 2, 2, leafOf(9, 9, 9, 9), 2, api.OK},
		{"six: in the middle", 1, 2, leafOf(9, 9, 9, 9, 9, 9), 3, api.OK},
		{"seven: 3 and 4 are alike, the least", 1, 2, leafOf(9, 9, 9, 9, 9, 9, 9), 3, api.OK},
		{"seven, packed", 2, 2, leafOf(9, 9, 9, 9, 9, 9, 9), 3, api.OK},
		{"one great one first: two on the left", 1, 2, leafOf(104, 8, 8, 8, 8, 8), 2, api.OK},
		{"one great one last: two on the right", 1, 2, leafOf(8, 8, 8, 8, 8, 104), 4, api.OK},
		{"the second one is great", 1, 2, leafOf(8, 104, 8, 8, 8, 8), 2, api.OK},
		{"300 and 304, or 400 and 204", 1, 2, leafOf(100, 100, 100, 100, 100, 104), 3, api.OK},
		{"504 each: just full", 1, 2, leafOf(100, 100, 100, 100, 104, 104, 100, 100, 100, 100), 5, api.OK},
		{"504 and 505", 1, 2, leafOf(100, 100, 100, 100, 104, 104, 100, 100, 100, 101), 0, api.ErrFit},
		{"505 and 504", 1, 2, leafOf(101, 100, 100, 100, 104, 104, 100, 100, 100, 100), 0, api.ErrFit},
		{"a branch of four", 1, 3, branchOf(0, 1, 1, 1), 2, api.OK},
		{"a branch of three", 1, 3, branchOf(0, 1, 1), 0, api.ErrFit},
		{"a branch of five: the right one's first key goes up", 1, 3, branchOf(0, 1, 60, 1, 1), 2, api.OK},
		{"a branch: at the long key, which stands on neither side", 1, 3, branchOf(0, 1, 1, 64, 1, 1, 1), 3, api.OK},
		{"a branch: 2, 3 or 4", 1, 3, branchOf(0, 30, 30, 30, 30, 30), 3, api.OK},
		{"a branch, packed", 2, 3, branchOf(0, 1, 1, 64, 1, 1, 1), 3, api.OK},
	} {
		at, e := node.Half(x.engine, x.kind, x.cells, 512)
		same(t, x.what, e, x.want)
		same(t, x.what, at, x.at)
		halves(t, x.what+", searched", x.engine, x.kind, x.cells, 512)
	}
}

// P8.5: what is too long for one side of the best cut may be none for another, since the key at the cut goes up.
func TestHalfWhereTheKeyGoesUp(t *testing.T) {
	cells := branchOf(0, 1, 1, 1, 1, 1, 1, 1)
	for at := range cells {
		l := slices.Clone(cells)
		l[at].Key = []byte(string(l[at].Key[:min(1, len(l[at].Key))]) + long(64))
		for _, engine := range engines() {
			got, e, _ := halves(t, named("a key of 65 bytes", engine, at), engine, api.PageBranch, l, 512)
			if at >= 2 && at <= 6 {
				same(t, "the cut", e, api.OK)
				same(t, "the cut", got, at)
			} else if at > 0 {
				same(t, "no cut", e, api.ErrFit)
			}
		}
	}
}

// P8.5: keys must rise on either side, but not from one to the other.
func TestHalfWhereKeysFall(t *testing.T) {
	for _, kind := range kinds() {
		for n := 4; n <= 9; n++ {
			for at := range n {
				cells := rowOf(kind, n)
				turned := slices.Concat(cells[at:], cells[:at])
				for _, engine := range engines() {
					halves(t, named("turned", engine, kind, n, at), engine, kind, turned, 512)
					twice := slices.Concat(cells[:at], cells[at:at+1], cells[at:])
					halves(t, named("one twice", engine, kind, n, at), engine, kind, twice, 512)
				}
			}
		}
	}
}

// P8.5: a cell that may not be, at every place.
func TestHalfOfCellsThatMayNotBe(t *testing.T) {
	for _, kind := range kinds() {
		for n := 4; n <= 8; n++ {
			for at := range n {
				for i, bad := range append(oddCells(), someCells(5-kind, 512)...) {
					cells := rowOf(kind, n)
					cells[at] = bad
					for _, engine := range engines() {
						halves(t, named("may not be", engine, kind, n, at, i), engine, kind, cells, 512)
					}
				}
			}
		}
	}
}

// P8.5: ErrEngine, then ErrArg, whatever the cells are.
func TestHalfOfWrongNumbers(t *testing.T) {
	wrong := row(value("b", ""), value("a", ""), value("", long(600)), value("", ""), value("", ""))
	for _, engine := range someEngines() {
		for _, kind := range someKinds() {
			for _, page := range someSizes() {
				for i, cells := range [][]api.Cell{nil, wrong, rowOf(api.PageLeaf, 6), rowOf(api.PageBranch, 6)} {
					halves(t, named("Half", engine, kind, page, i), engine, kind, cells, page)
				}
			}
		}
	}
}

// P8.5: none to many like cells, at every size.
func TestHalfOfLikeCells(t *testing.T) {
	for _, engine := range engines() {
		for _, kind := range kinds() {
			for n := range 120 {
				halves(t, named("like cells", engine, kind, n), engine, kind, rowOf(kind, n), 512)
			}
			for _, page := range sizes() {
				halves(t, named("cells of all kinds", engine, kind, page), engine, kind, someCells(kind, page), page)
			}
		}
	}
}

// P8.5: cells that fill two pages just so, or one byte more.
func TestHalfOfTwoFullPages(t *testing.T) {
	for _, engine := range engines() {
		for _, kind := range kinds() {
			for _, page := range sizes() {
				for _, more := range [][2]int{{0, 0}, {-1, 0}, {0, -1}, {1, 0}, {0, 1}, {1, 1}} {
					left, right := full(engine, kind, page, more[0]), full(engine, kind, page, more[1])
					for i := range right {
						right[i].Key = slices.Clone(right[i].Key)
						right[i].Key[0]++
					}
					right[0].Key[0] = 0xff
					cells := slices.Concat(left, right)
					halves(t, named("two full pages", engine, kind, page, more[0], more[1]), engine, kind, cells, page)
				}
			}
		}
	}
}

// seen counts what came, so that tries that miss the edges are not taken for good ones.
type seen struct{ ok, none, alike, keyMatters, middleNot int }

// P8.5: any cells beside a search over every cut.
func TestHalfBesideASearch(t *testing.T) {
	r := chance()
	for _, engine := range engines() {
		for _, kind := range kinds() {
			s := &seen{}
			for step := range 1500 {
				page := 512 << (step % 3)
				cells := anyRow(r, kind, page, r.Intn(4+page/14))
				if r.Intn(4) == 0 {
					cells = greatOnes(r, kind, page)
				}
				if r.Intn(6) == 0 {
					spoil(r, kind, page, cells)
				}
				what := named("any cells", engine, kind, page, step)
				at, e, alike := halves(t, what, engine, kind, cells, page)
				s.count(engine, kind, cells, at, e, alike)
			}
			if s.ok < 200 || s.none < 150 || s.alike < 3 || s.middleNot < 100 || kind == api.PageBranch && s.keyMatters < 10 {
				t.Errorf("engine %d, kind %d: the tries miss something: %+v", engine, kind, *s)
			}
		}
	}
}

func (s *seen) count(engine, kind int, cells []api.Cell, at int, e api.Errno, alike int) {
	if e != api.OK {
		s.none++
		return
	}
	s.ok++
	if alike > 1 {
		s.alike++
	}
	if at != len(cells)/2 {
		s.middleNot++
	}
	best, keyed := math.MaxInt, 0
	for k := 2; k <= len(cells)-2; k++ {
		if n := max(size(engine, kind, cells[:k]), size(engine, kind, cells[k:])); n < best {
			best, keyed = n, k
		}
	}
	if keyed != at {
		s.keyMatters++
	}
}

// P8.5: many cells in great pages, beside a search; and far more than two pages have.
func TestHalfOfManyCells(t *testing.T) {
	r := chance()
	for _, engine := range engines() {
		for _, kind := range kinds() {
			for _, page := range []int{8192, 65536} {
				halves(t, named("many", engine, kind, page), engine, kind, anyRow(r, kind, page, 700), page)
			}
			cells := many(engine, kind, 65536)
			at, e := node.Half(engine, kind, cells, 65536)
			same(t, named("a full page", engine, kind), e, api.OK)
			for k := at - 2; k <= at+2; k++ {
				if n, best := greaterSize(engine, kind, cells, k), greaterSize(engine, kind, cells, at); n < best || n == best && k < at {
					t.Errorf("a full page of engine %d, kind %d: %d, but %d is better", engine, kind, at, k)
				}
			}
			_, e = node.Half(engine, kind, rowOf(kind, 60000), 65536)
			same(t, named("60000 cells", engine, kind), e, api.ErrFit)
		}
	}
}

// P8.7: any three cells that may be, with rising keys, Fit.
func TestThreeFit(t *testing.T) {
	r := chance()
	for _, engine := range engines() {
		for _, kind := range kinds() {
			for _, page := range sizes() {
				same(t, named("the greatest three", engine, kind, page), node.Fits(engine, kind, greatest(kind, page, 3), page), true)
				for step := range 60 {
					cells := anyRow(r, kind, page, 3)
					if step%2 == 0 {
						cells = greatOnes(r, kind, page)[:3]
					}
					same(t, named("three", engine, kind, page, step), node.Fits(engine, kind, cells, page), true)
				}
			}
		}
	}
}

// greatest are n cells that have as many bytes as they may, with nothing in common.
func greatest(kind, page, n int) []api.Cell {
	var cells []api.Cell
	for i := range n {
		key := string([]byte{byte(i)}) + long(page/8-1)
		if kind == api.PageBranch {
			cells = append(cells, child(key, 65535, api.MaxLimit))
		} else {
			cells = append(cells, value(key, long(page*3/16)))
		}
	}
	return cells
}

// P8.7: whatever fits but for one cell more has a Half.
func TestOneCellMoreHasAHalf(t *testing.T) {
	r := chance()
	for _, engine := range engines() {
		for _, kind := range kinds() {
			for _, page := range sizes() {
				over := 0
				for step := range 80 {
					cells := fitting(r, engine, kind, page)
					cells, is := withOneMore(r, kind, page, cells)
					if !is || wanted(engine, kind, cells, page) != api.ErrFit {
						continue
					}
					over++
					at, e := node.Half(engine, kind, cells, page)
					what := named("one cell more", engine, kind, page, step)
					same(t, what, e, api.OK)
					same(t, what+": two pages", at >= 2 && at <= len(cells)-2 && mayCut(engine, kind, cells, at, page), true)
				}
				if over < 20 {
					t.Errorf("engine %d, kind %d, page %d: only %d rows were too many", engine, kind, page, over)
				}
			}
		}
	}
}

// fitting are any cells, as many as fit.
func fitting(r *rand.Rand, engine, kind, page int) []api.Cell {
	var cells []api.Cell
	switch r.Intn(4) {
	case 0:
		cells = greatOnes(r, kind, page)
	case 1:
		cells = anyRow(r, kind, page, 200)
	case 2:
		cells = greatest(kind, page, 12)
	default:
		cells = stemmed(kind, 200, long(r.Intn(page/8-2)))
	}
	for size(engine, kind, cells) > page {
		cells = cells[:len(cells)-1]
	}
	return cells
}

// withOneMore is a great cell more, somewhere; false, if its key is there already.
func withOneMore(r *rand.Rand, kind, page int, cells []api.Cell) ([]api.Cell, bool) {
	c := greatest(kind, page, 1)[0]
	c.Key[0] = byte(r.Intn(256))
	if r.Intn(2) == 0 && len(cells) > 0 {
		c.Key = append(slices.Clone(cells[r.Intn(len(cells))].Key), c.Key...)[:page/8]
	}
	l := &list{cells: cells}
	at, there := l.find(c.Key)
	return slices.Insert(slices.Clone(cells), at, c), !there
}

// stemmed are small cells that share a stem.
func stemmed(kind, n int, stem string) []api.Cell {
	cells := rowOf(kind, n)
	for i := range cells {
		cells[i].Key = []byte(stem + string(cells[i].Key))
	}
	return cells
}

// greatOnes are four to ten cells, each small or as great as may be.
func greatOnes(r *rand.Rand, kind, page int) []api.Cell {
	var cells []api.Cell
	for i := range 4 + r.Intn(7) {
		keyLen, valLen := r.Intn(page/8), 0
		if r.Intn(2) == 0 {
			keyLen, valLen = page/8-1-r.Intn(3), page*3/16-r.Intn(3)
		}
		key := string([]byte{byte('0' + i)}) + long(keyLen)
		switch {
		case kind == api.PageBranch && i == 0 && r.Intn(2) == 0:
			cells = append(cells, child("", 2, 1))
		case kind == api.PageBranch:
			cells = append(cells, child(key, 2+r.Intn(60000), 1+r.Intn(1<<20)))
		case r.Intn(8) == 0:
			cells = append(cells, tree(key, 65535, api.MaxLimit))
		default:
			cells = append(cells, value(key, long(valLen)))
		}
	}
	return cells
}

// anyRow are up to n cells that may be, with rising keys, that share a stem or not.
func anyRow(r *rand.Rand, kind, page, n int) []api.Cell {
	stem := long(r.Intn(page/8 - 2))
	if r.Intn(2) == 0 {
		stem = ""
	}
	byKey := map[string]api.Cell{}
	for i := 0; len(byKey) < n && i < 4*n; i++ {
		c := anyCell(r, kind, page, stem)
		byKey[string(c.Key)] = c
	}
	for i := 0; len(byKey) < n; i++ {
		key := strconv.Itoa(i)
		byKey[key] = other(kind, key)
	}
	var cells []api.Cell
	for _, c := range byKey {
		cells = append(cells, c)
	}
	slices.SortFunc(cells, func(a, b api.Cell) int { return slices.Compare(a.Key, b.Key) })
	return cells
}

// spoil makes a row one that no page has, mostly: by a cell, or by the order.
func spoil(r *rand.Rand, kind, page int, cells []api.Cell) {
	if len(cells) == 0 {
		return
	}
	i, j := r.Intn(len(cells)), r.Intn(len(cells))
	switch r.Intn(3) {
	case 0:
		cells[i] = spoilt(r, kind, page)
	case 1:
		cells[i], cells[j] = cells[j], cells[i]
	default:
		cells[i] = cells[j]
	}
}
