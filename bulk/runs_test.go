package bulk_test

import (
	"fmt"
	"slices"
	"strings"
	"testing"

	"espalier/api"
)

// sized is the cell at that place that takes so many bytes, with its slot: its value as long as it may be, the rest is its key.
func sized(engine, size, at, n int) api.Cell {
	v := size / 16 * 3
	for taken(engine, v) > n {
		v--
	}
	return value(string([]byte{byte('a' + at)})+long(n-taken(engine, v)), long(v))
}

// taken is what a cell with a key of one byte and a value of so many takes; what keys of packed pages share does not count.
func taken(engine, v int) int {
	switch {
	case engine == api.Plain:
		return 8 + v
	case v < 128:
		return 6 + v
	}
	return 7 + v
}

// leafOf are cells that take so many bytes each in a plain leaf of 512 bytes.
func leafOf(bytes ...int) []api.Cell {
	var cells []api.Cell
	for i, n := range bytes {
		cells = append(cells, sized(api.Plain, 512, i, n))
	}
	return cells
}

// times is n times the same number.
func times(n, of int) []int { return slices.Repeat([]int{of}, n) }

// P14.1, to lay a row: which runs leaves take, told by hand. On pages of 512 bytes a plain leaf may have 2 * fill + 1 bytes, 512 at most, 8 of which are not the cells'.
func TestRunsOfLeaves(t *testing.T) {
	for _, x := range []struct {
		what  string
		bytes []int
		fill  int
		want  string
	}{
		{"one", times(1, 104), 128, "1"},
		{"two", times(2, 104), 128, "2"},
		{"three small ones", times(3, 10), 128, "3"},
		{"three, the third above the fill: it were alone", times(3, 104), 128, "3"},
		{"four: two and two", times(4, 104), 128, "2 2; 2"},
		{"five: behind two runs of two one were alone", times(5, 104), 128, "2 3; 2"},
		{"six", times(6, 104), 128, "2 2 2; 3"},
		{"seven", times(7, 104), 128, "2 2 3; 3"},
		{"249 bytes: just the fill", []int{83, 83, 83, 104, 104}, 128, "3 2; 2"},
		{"250 bytes: above it", []int{83, 83, 84, 104, 104, 104}, 128, "2 2 2; 3"},
		{"the first two are above the fill", []int{130, 130, 8, 8, 8}, 128, "2 3; 2"},
		{"two great ones", []int{167, 167, 167, 167, 167}, 128, "2 3; 2"},
		{"three great ones with the fill 256: four are too many", times(8, 167), 256, "3 3 2; 3"},
		{"a small one behind a great one does not go ahead of it", []int{83, 83, 84, 8, 8, 8, 8}, 128, "2 5; 2"},
		{"a run of three leaves one: two and two", []int{83, 83, 83, 104}, 128, "2 2; 2"},
		{"a run of four leaves one: three and two", []int{60, 60, 60, 60, 104}, 128, "3 2; 2"},
		{"a run of four leaves two", []int{60, 60, 60, 60, 104, 104}, 128, "4 2; 2"},
		{"a run of four leaves three", []int{60, 60, 60, 60, 60, 60, 60}, 128, "4 3; 2"},
		{"the last run leaves one, too", times(9, 60), 128, "4 3 2; 3"},
		{"the last run of three leaves one", times(7, 83), 128, "3 2 2; 3"},
		{"the last run of two leaves one", times(9, 90), 128, "2 2 2 3; 4"},
		{"504 bytes: just full", times(5, 100), 256, "5"},
		{"508 bytes", []int{100, 100, 100, 100, 104}, 256, "5"},
		{"512 bytes", []int{100, 100, 100, 102, 102, 60, 60}, 256, "5 2; 2"},
		{"513 bytes have the fill 256, and do not fit", []int{101, 101, 101, 101, 101, 60, 60}, 256, "4 3; 2"},
		{"513 bytes with one behind them", []int{101, 101, 101, 101, 101, 60}, 256, "4 2; 2"},
		{"511 bytes, fill 255", []int{101, 101, 101, 100, 100, 60, 60}, 255, "5 2; 2"},
		{"512 bytes, fill 255", []int{101, 101, 101, 101, 100, 60, 60}, 255, "4 3; 2"},
		{"many", times(21, 50), 256, "10 9 2; 3"},
		{"as many as just fill pages", times(30, 50), 256, "10 10 10; 3"},
		{"those and one more", times(31, 50), 256, "10 10 9 2; 4"},
		{"those and two more", times(32, 50), 256, "10 10 10 2; 4"},
	} {
		s := newShelf(api.Plain, 512, 0)
		builds(t, x.what, s, leafOf(x.bytes...), x.fill)
		same(t, x.what, s.runs(t), x.want)
	}
}

// P14.1: at every fill a leaf takes what has just that fill, and not what has one more.
func TestRunsAtEveryFill(t *testing.T) {
	for fill := 128; fill <= 256; fill++ {
		for more := -1; more <= 2; more++ {
			// Four cells, which take 2 * fill + more together with the bytes that all pages have.
			all := 2*fill + more - 8
			cells := leafOf(all/4, all/4, all/4, all-all/4*3, 60, 60, 60)
			s := newShelf(api.Plain, 512, 0)
			what := fmt.Sprintf("%d bytes, fill %d", all+8, fill)
			builds(t, what, s, cells, fill)
			tooMany := more > 1 || fill == 256 && more > 0
			same(t, what+": not taken", strings.HasPrefix(s.runs(t), "3"), tooMany)
		}
	}
}

// P14.1: in greater pages more bytes have one fill; what is above a page's bytes has the fill 256, and does not fit.
func TestRunsOfGreaterPages(t *testing.T) {
	for _, engine := range engines() {
		for _, size := range sizes() {
			head := 8
			if engine == api.Packed {
				head = 10
			}
			for _, more := range []int{-1, 0, 1, size/256 - 1, size / 256} {
				s := newShelf(engine, size, 0)
				what := fmt.Sprintf("engine %d, %d bytes and %d more", engine, size, more)
				builds(t, what, s, filling(engine, size, size-head+more), 256)
				want := "8 2; 2"
				if more > 0 {
					want = "7 3; 2"
				}
				same(t, what, s.runs(t), want)
			}
		}
	}
}

// filling are eight cells that take so many bytes together, and two small ones behind them.
func filling(engine, size, bytes int) []api.Cell {
	var cells []api.Cell
	for i := range 7 {
		cells = append(cells, sized(engine, size, i, bytes/8))
	}
	cells = append(cells, sized(engine, size, 7, bytes-bytes/8*7))
	return append(cells, value("i", ""), value("j", ""))
}

// bounded are 2 * n cells: three of them are above the fill 128 where pages have 512 bytes, so leaves have two each; all keys that lead to leaves have so many bytes.
func bounded(n, bytes int) []api.Cell {
	var cells []api.Cell
	for i := range 2 * n {
		cells = append(cells, value(long(bytes-1)+string([]byte{byte(1 + i)}), long(94)))
	}
	return cells
}

// P14.1: which runs branches take, told by hand. A plain branch of n cells has 8 + 13 n bytes, and the keys but the first one.
func TestRunsOfBranches(t *testing.T) {
	for _, x := range []struct {
		what      string
		n, length int
		want      string
	}{
		// 8 + 13 * 18 + 17 = 259: 18 are above the fill.
		{"17 of one byte", 17, 1, "17"},
		{"18: one were left", 18, 1, "16 2; 2"},
		{"19", 19, 1, "17 2; 2"},
		{"34", 34, 1, "17 17; 2"},
		{"35: one were left at the end", 35, 1, "17 16 2; 3"},
		// 8 + 13 * 4 + 3 * 64 = 252: with the first key it were 316.
		{"four of 64 bytes: the first one stands with an empty key", 4, 64, "4"},
		{"five: one were left", 5, 64, "3 2; 2"},
		{"six", 6, 64, "4 2; 2"},
		{"eight: on the second page, too", 8, 64, "4 4; 2"},
		{"nine", 9, 64, "4 3 2; 3"},
		{"sixteen", 16, 64, "4 4 4 4; 4"},
		{"seventeen: and above them", 17, 64, "4 4 4 3 2; 3 2; 2"},
		{"thirty-two", 32, 64, "4 4 4 4 4 4 4 4; 4 4; 2"},
		// 8 + 13 * 5 + 4 * 46 = 257, with 47 it were 261.
		{"five of 46 bytes: just the fill", 7, 46, "5 2; 2"},
		{"five of 47 bytes: above it", 7, 47, "4 3; 2"},
	} {
		s := newShelf(api.Plain, 512, 0)
		builds(t, x.what, s, bounded(x.n, x.length), 128)
		leaves := strings.TrimSpace(strings.Repeat("2 ", x.n))
		same(t, x.what, s.runs(t), leaves+"; "+x.want)
	}
}

// P14.1: in packed branches, too, the first key is empty: it stands neither in the page nor in the way of a prefix.
func TestRunsOfPackedBranches(t *testing.T) {
	for _, x := range []struct {
		what      string
		n, length int
		want      string
	}{
		// 10 + 9 n - 1, with three bytes for each page: 27 have 252, 28 have 261.
		{"27 of one byte", 27, 1, "27"},
		{"28", 28, 1, "26 2; 2"},
		{"29", 29, 1, "27 2; 2"},
		// 10 + 63 + 9 n - 1: 20 have 252, 21 have 261. If the first key stood whole it were 63 more.
		{"20 of 64 bytes", 20, 64, "20"},
		{"22 of 64 bytes", 22, 64, "20 2; 2"},
		{"42 of 64 bytes", 42, 64, "20 20 2; 3"},
	} {
		s := newShelf(api.Packed, 512, 0)
		cells := bounded(x.n, x.length)
		if x.length > 1 {
			cells = apart(cells)
		}
		builds(t, x.what, s, cells, 128)
		leaves := strings.TrimSpace(strings.Repeat("2 ", x.n))
		same(t, x.what, s.runs(t), leaves+"; "+x.want)
	}
}

// apart makes the values longer by what packed leaves of long keys have less.
func apart(cells []api.Cell) []api.Cell {
	for i := range cells {
		cells[i].Value = []byte(long(96))
	}
	return cells
}

// P14.1: each page counts as 65535, whichever the room hands out. So a packed branch has 10 + 9 n - 1 bytes, 504 with 55 cells; if short numbers counted as such, 71 went into one.
func TestEachPageCountsAs65535(t *testing.T) {
	var cells []api.Cell
	for i := range 180 {
		// Three of a leaf take 10 + 3 * 133 bytes, four are too many.
		cells = append(cells, sized(api.Packed, 512, i-'a'+1, 133))
	}
	leaves := strings.TrimSpace(strings.Repeat("3 ", 60))
	for _, x := range []struct {
		what string
		pick func() int
	}{
		{"from 2 on", rising(2)}, {"to 65535", rising(65535 - 62)}, {"from 65535 down", falling(65535)}, {"from 127 down", falling(127)},
		{"about 128", rising(100)}, {"about 16384", rising(16370)}, {"scattered", scattered(chance())},
	} {
		s := newShelf(api.Packed, 512, 0)
		s.pick = x.pick
		builds(t, x.what, s, cells, 256)
		same(t, x.what, s.runs(t), leaves+"; 55 5; 2")
	}
}
