package packed_test

import (
	"math"
	"slices"
	"sort"
	"strconv"
	"testing"

	"espalier/api"
	"espalier/packed"
)

// someSizes are powers of two, what stands beside them, and numbers far off.
func someSizes() []int {
	l := []int{0, -1, -2, -512, -65536, 500, 768, 1536, 65024, 66048, 98304, 1<<32 + 512, 1 << 32, 1 << 62, math.MinInt, math.MinInt + 512, math.MinInt + 1, math.MaxInt, math.MaxInt - 1}
	for n := 1; n <= 1<<20; n *= 2 {
		l = append(l, n-1, n, n+1)
	}
	return l
}

func someKinds() []int {
	return []int{math.MinInt, -2, -1, 0, 1, 2, 3, 4, 5, 6, 7, 258, 259, 1<<32 + 2, math.MaxInt}
}

// P7.2, P7.4: which kinds and page sizes may be.
func TestKindsAndPageSizes(t *testing.T) {
	for _, kind := range someKinds() {
		for _, page := range someSizes() {
			what := "kind " + strconv.Itoa(kind) + ", page " + strconv.Itoa(page)
			isKind := kind == 2 || kind == 3
			if isKind && slices.Contains(sizes(), page) {
				takes(t, what, kind, nil, page)
				p, e := packed.New(kind, page)
				same(t, what+": New", e, api.OK)
				stands(t, what+": New", p, anew(kind, page, nil))
				continue
			}
			refuses(t, what, kind, nil, page, api.ErrArg)
			refuses(t, what+", a cell that may not be", kind, row(api.Cell{}), page, api.ErrArg)
			p, e := packed.New(kind, page)
			same(t, what+": New", e, api.ErrArg)
			same(t, what+": New's page", p, nil)
		}
	}
}

// P7.2: ErrArg is asked first, of the kind and of the page.
func TestErrArgIsFirst(t *testing.T) {
	wrong := row(value("b", ""), value("a", ""), value("", long(600)))
	for _, x := range [][2]int{{api.PageMeta, 512}, {api.PageSpill, 512}, {api.PageFree, 512}, {api.PageLeaf, 511}, {api.PageBranch, 513}, {0, 0}} {
		refuses(t, "wrong cells", x[0], wrong, x[1], api.ErrArg)
	}
}

// P7.2, P7.11: cells of every kind, at every size.
func TestCellsOfEveryKind(t *testing.T) {
	for _, page := range sizes() {
		for _, kind := range kinds() {
			cells := someCells(kind, page)
			for n := range cells {
				takes(t, "a row", kind, cells[:n], page)
				takes(t, "a row", kind, cells[n:n+1], page)
			}
			if size(kind, cells) <= page {
				takes(t, "a whole row", kind, cells, page)
			}
		}
	}
}

// P7.2: the keys of a page rise, by their bytes; a branch's first one alone can be empty.
func TestKeysRise(t *testing.T) {
	texts := []string{"", "\x00", "\x00\x00", "\x00\x00\x00", "\x00\x01", "\x00\xff", "\x01", "a", "a\x00", "a\x00\x00", "aa", "ab", "a\xff", "b", "\x7f", "\x80", "\xfe\xff", "\xff", "\xff\x00", "\xff\xfe", "\xff\xff", "\xff\xff\xff"}
	for i, a := range texts {
		for j, b := range texts {
			what := strconv.Quote(a) + ", " + strconv.Quote(b)
			branch := row(child(a, 2, 1), child(b, 3, 1))
			if i < j {
				takes(t, what, api.PageBranch, branch, 512)
			} else {
				refuses(t, what, api.PageBranch, branch, 512, api.ErrOrder)
			}
			leaf := row(value(a, "v"), tree(b, 0, 0))
			switch {
			case a == "" || b == "":
				refuses(t, what, api.PageLeaf, leaf, 512, api.ErrCell)
			case i < j:
				takes(t, what, api.PageLeaf, leaf, 512)
			default:
				refuses(t, what, api.PageLeaf, leaf, 512, api.ErrOrder)
			}
		}
	}
}

// P7.2: keys are held against each other all along the row, each with the one ahead of it.
func TestKeysFallSomewhere(t *testing.T) {
	for n := 2; n <= 6; n++ {
		for at := 1; at < n; at++ {
			for _, how := range []string{"alike", "falling", "back to the first"} {
				var cells []api.Cell
				for i := range n {
					cells = append(cells, value("k"+strconv.Itoa(i), ""))
				}
				takes(t, "rising", api.PageLeaf, cells, 512)
				switch how {
				case "alike":
					cells[at].Key = cells[at-1].Key
				case "falling":
					cells[at].Key = []byte("k")
				default:
					cells[at].Key = cells[0].Key
				}
				refuses(t, how, api.PageLeaf, cells, 512, api.ErrOrder)
			}
		}
	}
}

// P7.2: cell by cell, in each ErrCell ahead of ErrOrder, and ErrFit last.
func TestWhichErrorIsFirst(t *testing.T) {
	a, b, bad := value("a", ""), value("b", ""), value("", "")
	badAndFalling := value("a", long(97))
	var many []api.Cell
	for i := range 64 {
		many = append(many, value(string([]byte{'c', byte(i)}), "123456"))
	}
	with := func(l []api.Cell, more ...api.Cell) []api.Cell { return append(slices.Clone(l), more...) }
	for _, x := range []struct {
		what  string
		cells []api.Cell
		want  api.Errno
	}{
		{"within one cell", row(b, badAndFalling), api.ErrCell},
		{"within one cell, alike", row(a, badAndFalling), api.ErrCell},
		{"a cell that may not be, a falling one", row(a, bad, b, a), api.ErrCell},
		{"a falling one, a cell that may not be", row(b, a, bad), api.ErrOrder},
		{"a falling one, far ahead", with(row(b, a), append(slices.Clone(many), bad)...), api.ErrOrder},
		{"a first one that may not be", row(bad, b, a), api.ErrCell},
		{"too many", many, api.ErrFit},
		{"too many, the last one may not be", with(many, bad), api.ErrCell},
		{"too many, the last one falls", with(many, a), api.ErrOrder},
		{"too many, the last one alike", with(many, many[63]), api.ErrOrder},
		{"too many, the first one may not be", with(row(bad), many...), api.ErrCell},
	} {
		refuses(t, x.what, api.PageLeaf, x.cells, 512, x.want)
		same(t, x.what+": by the rule", wanted(api.PageLeaf, x.cells, 512), x.want)
	}
}

// stretchable is the i-th cell of a row, with n bytes behind its key's first one: in its value, if it has one, and then in its key.
func stretchable(kind, page, i, n int) api.Cell {
	first := string([]byte{byte(i)})
	if kind == api.PageBranch {
		return child(first+long(n), 65535, 1)
	}
	return value(first+long(max(0, n-page/16*3)), long(min(n, page/16*3)))
}

// most is how long the cells can be stretched that stretchable makes.
func most(kind, page int) int {
	if kind == api.PageBranch {
		return page/8 - 1
	}
	return page/16*3 + page/8 - 1
}

// few are as few cells as can take just so many bytes; they share nothing.
func few(kind, page, total int) []api.Cell {
	var cells []api.Cell
	great := most(kind, page)
	for size(kind, append(cells, stretchable(kind, page, len(cells), great), stretchable(kind, page, len(cells)+1, 0), stretchable(kind, page, len(cells)+2, 0))) <= total {
		cells = append(cells, stretchable(kind, page, len(cells), great))
	}
	// Two cells more: the length of a length makes that not every number of bytes comes by one of them.
	for n := range great {
		with := append(slices.Clone(cells), stretchable(kind, page, len(cells), n))
		last := sort.Search(great, func(n int) bool {
			return size(kind, append(with, stretchable(kind, page, len(with), n))) >= total
		})
		with = append(with, stretchable(kind, page, len(with), last))
		if size(kind, with) == total {
			return with
		}
	}
	panic("no cells take so many bytes")
}

// many are as many cells as there can be with that stem: with the shortest keys behind it, and nothing else that could be shorter.
func many(kind, page int, stem string) []api.Cell {
	var cells []api.Cell
	took := 10 + len(stem)
	for i := range 1 << 16 {
		key := string([]byte{byte((i - 256) >> 8), byte(i)})
		if i < 256 {
			key = key[1:]
		}
		c, rest := value(stem+key, ""), key
		if kind == api.PageBranch {
			c = child(stem+key, 2, 1)
			if i == 0 {
				rest = stem + key
			}
		}
		if took += 2 + len(record(c, []byte(rest))); took > page {
			break
		}
		cells = append(cells, c)
	}
	slices.SortFunc(cells, func(a, b api.Cell) int { return slices.Compare(a.Key, b.Key) })
	return cells
}

// stretched are the cells with n bytes more in the last one: in its value, or else in its key.
func stretched(cells []api.Cell, n int) []api.Cell {
	cells = slices.Clone(cells)
	last := &cells[len(cells)-1]
	if last.Kind == api.CellValue {
		last.Value = []byte(string(last.Value) + long(n))
	} else {
		last.Key = []byte(string(last.Key) + long(n))
	}
	return cells
}

// stems are what many cells may share: nothing, a little, much.
func stems(page int) []string { return []string{"", "stem", long(min(page/8-16, 400))} }

// P7.2: ErrFit, if Size is above page: a page that is just full, and one byte more.
func TestJustFull(t *testing.T) {
	for _, page := range sizes() {
		for _, kind := range kinds() {
			fills(t, "few", kind, page, few(kind, page, page-1), few(kind, page, page), few(kind, page, page+1))
			for _, stem := range stems(page) {
				cells := many(kind, page, stem)
				spare := page - size(kind, cells)
				if spare > 0 {
					fills(t, "many", kind, page, stretched(cells, spare-1), stretched(cells, spare), stretched(cells, spare+1))
				} else {
					fills(t, "many", kind, page, cells[:len(cells)-1], cells, stretched(cells, 1))
				}
			}
		}
	}
}

// fills tells what becomes of rows of cells that leave room, that leave none, and that are a byte too long.
func fills(t *testing.T, what string, kind, page int, less, full, more []api.Cell) {
	t.Helper()
	same(t, what+": Size", packed.Size(kind, full), page)
	same(t, what+" and a byte: Size", packed.Size(kind, more), page+1)
	takes(t, what+", with room", kind, less, page)
	takes(t, what, kind, full, page)
	refuses(t, what+" and a byte", kind, more, page, api.ErrFit)
	if page < 65536 {
		takes(t, what+" and a byte, in a greater page", kind, more, 2*page)
	}
}

// P7.2: one cell more than there can be.
func TestOneCellMore(t *testing.T) {
	for _, page := range sizes() {
		for _, kind := range kinds() {
			for _, stem := range stems(page) {
				cells := many(kind, page, stem)
				takes(t, "as many as there can be", kind, cells, page)
				last := value(stem+"\xff\xff\xff", "")
				if kind == api.PageBranch {
					last = child(stem+"\xff\xff\xff", 2, 1)
				}
				refuses(t, "one more", kind, append(cells, last), page, api.ErrFit)
			}
		}
	}
}

// P7.2, R1: far more than a page has.
func TestFarTooMany(t *testing.T) {
	var cells []api.Cell
	for i := range 100000 {
		cells = append(cells, value(string([]byte{byte(i >> 16), byte(i >> 8), byte(i)}), ""))
	}
	for _, page := range sizes() {
		refuses(t, "100000 cells", api.PageLeaf, cells, page, api.ErrFit)
	}
	refuses(t, "100000 cells, the last one falls", api.PageLeaf, append(cells, cells[0]), 65536, api.ErrOrder)
}
