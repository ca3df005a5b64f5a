package bulk_test

import (
	"fmt"
	"iter"
	"math"
	"slices"
	"testing"

	"espalier/api"
	"espalier/bulk"
)

// refuses holds a Build that is refused against what it must answer: the error, how many cells it reads, and that the room is asked no more than Engine and Size.
func refuses(t *testing.T, what string, engine, size int, cells []api.Cell, fill, read int, want api.Errno) {
	t.Helper()
	what = fmt.Sprintf("%s, engine %d, %d bytes, fill %d", what, engine, size, fill)
	s := newShelf(engine, size, 1<<20)
	told := &teller{cells: cells}
	root, n, e := bulk.Build(s, told.all(), fill)
	same(t, what, e, want)
	same(t, what+": the root", root, 0)
	same(t, what+": how many", n, 0)
	same(t, what+": cells read", told.told, read)
	same(t, what+": ranges over the cells", told.began, min(read, 1))
	same(t, what+": what the room was asked", len(s.acts), 0)
	same(t, what+": pages", len(s.held), 0)
	n, e = bulk.Need(engine, size, fill, cells)
	same(t, what+": Need", e, want)
	same(t, what+": Need", n, 0)
}

// badFills are none.
func badFills() []int {
	return []int{127, 257, 0, -1, -128, -256, 1, 64, 255 - 128, 512, 65536, 1<<32 + 200, math.MinInt, math.MaxInt}
}

// P14.1: without a room, and with a fill that is none, nothing is read, whatever the cells are.
func TestBuildOfWrongArguments(t *testing.T) {
	for _, cells := range [][]api.Cell{nil, values("a"), values("b", "a"), values("")} {
		for _, fill := range append(badFills(), 128, 200, 256) {
			told := &teller{cells: cells}
			root, n, e := bulk.Build(nil, told.all(), fill)
			same(t, "no room", e, api.ErrArg)
			same(t, "no room: the root", root, 0)
			same(t, "no room: how many", n, 0)
			same(t, "no room: ranges", told.began, 0)
			_, _, e = bulk.Build(nil, nil, fill)
			same(t, "no room and no cells", e, api.ErrArg)
		}
		for _, engine := range engines() {
			for _, fill := range badFills() {
				refuses(t, "no fill", engine, 512, cells, fill, 0, api.ErrArg)
			}
		}
	}
	// Also where the room has no page.
	for _, fill := range badFills() {
		_, _, e := bulk.Build(newShelf(api.Plain, 512, -1), nil, fill)
		same(t, "no fill in a full room", e, api.ErrArg)
	}
}

// P14.1, P14.2: all fills that there are are taken.
func TestEveryFill(t *testing.T) {
	cells := values("a", "b", "c", "d", "e", "f", "g", "h")
	for fill := 128; fill <= 256; fill++ {
		for _, engine := range engines() {
			builds(t, "every fill", newShelf(engine, 512, 0), nil, fill)
			builds(t, "every fill", newShelf(engine, 512, 0), cells, fill)
		}
	}
}

// badCells may not be in leaves of pages of that size; in a row each has the key m, if it has one.
func badCells(size int) map[string]api.Cell {
	key, most := size/8, size/16*3
	full := value("m", "v")
	withPage, withCount := full, full
	withPage.Page, withCount.Count = 2, 1
	spilled, treed := spill("m", 2, most+1), named("m", 2, 1)
	spilled.Value, treed.Value = []byte("v"), []byte("v")
	return map[string]api.Cell{
		"a zero cell":               {},
		"an empty key":              value("", "v"),
		"no key":                    {Kind: api.CellValue},
		"an empty key of a tree":    named("", 2, 1),
		"a key too long":            value("m"+long(key), "v"),
		"a key far too long":        value("m"+long(70000), "v"),
		"a spilled key too long":    spill("m"+long(key), 2, most+1),
		"a tree's key too long":     named("m"+long(key), 2, 1),
		"a value too long":          value("m", long(most+1)),
		"a value far too long":      value("m", long(70000)),
		"a child":                   lead("m", 2, 1),
		"a child of an empty key":   lead("", 2, 1),
		"kind 0":                    {Key: []byte("m")},
		"kind 5":                    {Key: []byte("m"), Kind: 5},
		"kind -1":                   {Key: []byte("m"), Kind: -1, Value: []byte("v")},
		"a value with a page":       withPage,
		"a value with a count":      withCount,
		"a spilled value too short": spill("m", 2, most),
		"a spilled value too long":  spill("m", 2, 65537),
		"a spilled value in 1":      spill("m", 1, most+1),
		"a spilled value in 65536":  spill("m", 65536, most+1),
		"a spilled value's value":   spilled,
		"a tree in 1":               named("m", 1, 1),
		"a tree in 65536":           named("m", 65536, 1),
		"a tree of 0 in 2":          named("m", 2, 0),
		"a tree of 1 in 0":          named("m", 0, 1),
		"a tree of too many":        named("m", 2, 1<<30+1),
		"a tree's value":            treed,
	}
}

// P14.1, P14.2: a cell that may not be in a leaf, first, in the middle and last.
func TestCellsThatMayNotBe(t *testing.T) {
	for _, engine := range engines() {
		for _, size := range []int{512, 1024, 65536} {
			for what, bad := range badCells(size) {
				ahead, behind := values("a", "b", "c"), values("x", "y", "z")
				refuses(t, what+", alone", engine, size, row(bad), 256, 1, api.ErrCell)
				refuses(t, what+", first", engine, size, slices.Concat(row(bad), behind), 128, 1, api.ErrCell)
				refuses(t, what+", in the middle", engine, size, slices.Concat(ahead, row(bad), behind), 200, 4, api.ErrCell)
				refuses(t, what+", last", engine, size, slices.Concat(ahead, row(bad)), 256, 4, api.ErrCell)
			}
		}
	}
}

// P14.1, P14.2: the longest keys and values, and all kinds of cells, are taken.
func TestCellsThatMayBe(t *testing.T) {
	for _, engine := range engines() {
		for _, size := range sizes() {
			key, most := size/8, size/16*3
			cells := row(
				value("\x00", ""), value("a", long(most)), value("b"+long(key-1), long(most)), value("c"+long(key-1), ""), spill("d", 2, most+1), spill("d"+long(key-1), 65535, 65536),
				named("e", 0, 0), named("f", 2, 1), named("f"+long(key-1), 65535, 1<<30), value("\xff", "v"),
			)
			if size == 65536 {
				cells[4].Count = 65536
			}
			for _, fill := range []int{128, 256} {
				builds(t, "all that may be", newShelf(engine, size, 0), cells, fill)
				for _, c := range cells {
					builds(t, "alone", newShelf(engine, size, 0), row(c), fill)
				}
			}
		}
	}
}

// P14.1, P14.2: keys that are equal, and keys that fall, first, in the middle and last.
func TestKeysThatDoNotRise(t *testing.T) {
	keys := []string{"b", "bb", "c", "d\x00", "e", "f", "g\xff", "h"}
	for _, engine := range engines() {
		for _, size := range []int{512, 4096} {
			for at := 1; at < len(keys); at++ {
				for i, bad := range []string{keys[at-1], keys[0], keys[at-1][:len(keys[at-1])-1] + "\x00", "a", "\x00", "aaaaaaaaaa", keys[at-1][:1]} {
					cells := values(keys...)
					cells[at].Key = []byte(bad)
					if bad > keys[at-1] {
						continue
					}
					refuses(t, fmt.Sprintf("key %d, %q (%d)", at, bad, i), engine, size, cells, 256, at+1, api.ErrSorted)
				}
			}
		}
	}
	refuses(t, "two alike", api.Plain, 512, values("a", "a"), 128, 2, api.ErrSorted)
	refuses(t, "two alike, of unlike kinds", api.Packed, 512, row(value("a", "v"), named("a", 0, 0)), 128, 2, api.ErrSorted)
	refuses(t, "a beginning behind what it begins", api.Plain, 512, values("ab", "a"), 128, 2, api.ErrSorted)
}

// P14.1, P14.2: of one cell ErrCell comes ahead of ErrSorted; of several the first one's error.
func TestWhichErrorComesFirst(t *testing.T) {
	for _, engine := range engines() {
		for _, x := range []struct {
			what  string
			cells []api.Cell
			read  int
			want  api.Errno
		}{
			{"a key that falls, of a child", row(value("b", ""), lead("a", 2, 1)), 2, api.ErrCell},
			{"an empty key behind another one", row(value("b", ""), value("", "")), 2, api.ErrCell},
			{"two empty keys", row(value("", ""), value("", "")), 1, api.ErrCell},
			{"a like key, the value too long", row(value("b", ""), value("b", long(97))), 2, api.ErrCell},
			{"a key that falls, and is too long", row(value("b", ""), value("a"+long(64), "")), 2, api.ErrCell},
			{"one that falls ahead of one that may not be", row(value("b", ""), value("a", ""), lead("c", 2, 1)), 2, api.ErrSorted},
			{"one that may not be ahead of one that falls", row(value("b", ""), lead("c", 2, 1), value("a", "")), 2, api.ErrCell},
			{"behind one that may not be", row(lead("c", 2, 1), value("b", ""), value("a", "")), 1, api.ErrCell},
			{"two that fall", row(value("c", ""), value("b", ""), value("a", "")), 2, api.ErrSorted},
		} {
			refuses(t, x.what, engine, 512, x.cells, 256, x.read, x.want)
			// And ahead of a room without pages.
			for _, spare := range []int{-1, 0, 1} {
				s := newShelf(engine, 512, spare)
				_, _, e := bulk.Build(s, slices.Values(x.cells), 256)
				same(t, x.what+", in a full room", e, x.want)
				same(t, x.what+", in a full room: what it was asked", len(s.acts), 0)
			}
		}
	}
}

// P14.1: of a million cells, or of ones without end, none is read behind the first one that is refused.
func TestNothingIsReadBehindARefusal(t *testing.T) {
	told := 0
	endless := func(yield func(api.Cell) bool) {
		for yield(value("k"+string([]byte{byte(told)}), "v")) {
			told++
		}
	}
	s := newShelf(api.Plain, 512, 1000)
	root, n, e := bulk.Build(s, endless, 200)
	same(t, "without end", e, api.ErrSorted)
	same(t, "the root", root, 0)
	same(t, "how many", n, 0)
	same(t, "told and taken", told, 256)
	same(t, "what the room was asked", len(s.acts), 0)
}

// R1: a function that goes on though its range was left is answered all the same, and what it tells then is not looked at.
func TestAFunctionThatDoesNotHeed(t *testing.T) {
	for _, x := range []struct {
		cells []api.Cell
		want  api.Errno
	}{{values("b", "a", "c", "", "d"), api.ErrSorted}, {values("b", "", "a", "c", "d"), api.ErrCell}, {values("a", "b", "c"), api.OK}} {
		s := newShelf(api.Plain, 512, 1000)
		told, refused := 0, 0
		_, n, e := bulk.Build(s, func(yield func(api.Cell) bool) {
			for _, c := range x.cells {
				told++
				if !yield(c) {
					refused++
				}
			}
		}, 200)
		same(t, "Build", e, x.want)
		same(t, "told", told, len(x.cells))
		if x.want == api.OK {
			same(t, "how many", n, len(x.cells))
			continue
		}
		same(t, "refused", refused, len(x.cells)-1)
		same(t, "how many", n, 0)
		same(t, "what the room was asked", len(s.acts), 0)
	}
}

// R1: a room whose engine or size is none is answered, too: it gets no page.
func TestRoomsThatAreNone(t *testing.T) {
	for _, size := range []int{0, -1, -512, 1, 500, 513, 256, 131072, 1 << 40, math.MinInt, math.MaxInt} {
		for _, engine := range engines() {
			s := newShelf(engine, size, 1000)
			root, n, e := bulk.Build(s, slices.Values(values("a", "b", "c", "d")), 200)
			same(t, fmt.Sprint("size ", size), e, api.ErrCell)
			same(t, "the root", root, 0)
			same(t, "how many", n, 0)
			same(t, "pages", len(s.held), 0)
		}
	}
	for _, engine := range []int{0, 3, -1, math.MinInt, math.MaxInt} {
		s := newShelf(engine, 512, 1000)
		root, n, e := bulk.Build(s, slices.Values(values("a", "b", "c", "d")), 200)
		same(t, fmt.Sprint("engine ", engine), e, api.ErrEngine)
		same(t, "the root", root, 0)
		same(t, "how many", n, 0)
		same(t, "pages", len(s.held), 0)
	}
}

// P14.2: Need of arguments that may not be, in the order in which the promise names the errors.
func TestNeedOfWrongArguments(t *testing.T) {
	badSizes := []int{500, 0, -512, 511, 513, 256, 768, 65535, 131072, 1<<32 + 512, math.MinInt, math.MaxInt}
	rows := [][]api.Cell{nil, {}, values("a", "b"), values("b", "a"), values(""), row(lead("a", 2, 1)), values("a", "a")}
	for _, cells := range rows {
		for _, engine := range []int{3, 0, -1, 1 << 32, 1<<32 + 1, math.MinInt, math.MaxInt} {
			for _, size := range append(badSizes, 512, 4096) {
				for _, fill := range append(badFills(), 128, 256) {
					n, e := bulk.Need(engine, size, fill, cells)
					same(t, "no engine", e, api.ErrEngine)
					same(t, "no engine", n, 0)
				}
			}
		}
		for _, engine := range engines() {
			for _, size := range badSizes {
				for _, fill := range append(badFills(), 128, 256) {
					n, e := bulk.Need(engine, size, fill, cells)
					same(t, fmt.Sprint("no page size: ", size), e, api.ErrArg)
					same(t, "no page size", n, 0)
				}
			}
			for _, size := range sizes() {
				for _, fill := range badFills() {
					n, e := bulk.Need(engine, size, fill, cells)
					same(t, fmt.Sprint("no fill: ", fill), e, api.ErrArg)
					same(t, "no fill", n, 0)
				}
			}
		}
	}
}

// P14.1, R3: no cells at all.
func TestBuildOfNone(t *testing.T) {
	for _, engine := range engines() {
		for _, size := range sizes() {
			for _, cells := range []iter.Seq[api.Cell]{nil, func(func(api.Cell) bool) {}, slices.Values([]api.Cell{})} {
				s := newShelf(engine, size, 0)
				root, n, e := bulk.Build(s, cells, 128)
				same(t, "none", e, api.OK)
				same(t, "none: the root", root, 0)
				same(t, "none: how many", n, 0)
				sameList(t, "none: what the room was asked", s.acts, []act{{"spare", 0}})
			}
			for _, cells := range [][]api.Cell{nil, {}} {
				n, e := bulk.Need(engine, size, 256, cells)
				same(t, "Need of none", e, api.OK)
				same(t, "Need of none", n, 0)
			}
		}
	}
}
