package bulk_test

import (
	"slices"
	"testing"

	"espalier/api"
	"espalier/bulk"
)

// keysOf are the keys, entries and pages of a branch's cells.
func keysOf(cells []api.Cell) (keys []string, counts, pages []int) {
	for _, c := range cells {
		keys, counts, pages = append(keys, string(c.Key)), append(counts, c.Count), append(pages, c.Page)
	}
	return keys, counts, pages
}

// P14.1: a key of a branch is the shortest beginning of the least key below that stands behind the greatest one to the left.
func TestKeysOfBranches(t *testing.T) {
	for _, x := range []struct{ left, right, want string }{
		{"b", "c", "c"}, {"b", "cdef", "c"}, {"bcd", "bce", "bce"}, {"bcd", "bcefg", "bce"}, {"b", "bcd", "bc"}, {"b", "b\x00", "b\x00"}, {"b", "b\x00\x00", "b\x00"},
		{"b\xff\xff", "c\x00", "c"}, {"bzzz", "ca", "c"}, {long(60) + "a", long(60) + "bcd", long(60) + "b"}, {"\x00\x00\x01", "\x00\x01", "\x00\x01"},
	} {
		for _, engine := range engines() {
			cells := values("\x00", x.left, x.right, "\xff\xff")
			r := api.NewBench(engine, 512, 60)
			root, _, e := bulk.Build(r, slices.Values(cells), 128)
			same(t, "Build", e, api.OK)
			same(t, "the root", root, 4)
			_, kind, cells := page(t, r, root)
			keys, counts, pages := keysOf(cells)
			same(t, "a branch", kind, api.PageBranch)
			sameList(t, "keys", keys, []string{"", x.want})
			sameList(t, "entries", counts, []int{2, 2})
			sameList(t, "pages", pages, []int{2, 3})
		}
	}
}

// P14.1: of a branch above branches, too: the key stands between leaves, and in no branch below. Entries are all that lie below.
func TestKeysOfBranchesAboveBranches(t *testing.T) {
	// Leaves of two; keys of 64 bytes in the branches: four leaves a branch, the last one three and two.
	cells := bounded(9, 64)
	key := func(i int) string { return string(cells[2*i].Key) }
	for name, pick := range map[string]func() int{"rising": rising(2), "falling": falling(300)} {
		s := newShelf(api.Plain, 512, 0)
		s.pick = pick
		root := builds(t, name, s, cells, 128)
		same(t, name, s.runs(t), "2 2 2 2 2 2 2 2 2; 4 3 2; 3")
		p := s.asked("alloc")
		for _, x := range []struct {
			page   int
			keys   []string
			counts []int
			pages  []int
		}{
			{p[9], []string{"", key(1), key(2), key(3)}, []int{2, 2, 2, 2}, p[:4]},
			{p[10], []string{"", key(5), key(6)}, []int{2, 2, 2}, p[4:7]},
			{p[11], []string{"", key(8)}, []int{2, 2}, p[7:9]},
			{root, []string{"", key(4), key(7)}, []int{8, 6, 4}, p[9:12]},
		} {
			_, cells := s.cells(t, x.page)
			keys, counts, pages := keysOf(cells)
			sameList(t, name+": keys", keys, x.keys)
			sameList(t, name+": entries", counts, x.counts)
			sameList(t, name+": pages", pages, x.pages)
		}
	}
}

// P14.1: pages are taken, and written, in the order in which they are laid: the leaves from the left, then the branches above them.
func TestTheOrderOfPages(t *testing.T) {
	order := []int{50, 7, 65535, 3, 40000, 9, 2, 128, 16384, 127, 300, 4, 77}
	at := 0
	s := newShelf(api.Plain, 512, 13)
	s.pick = func() int {
		at++
		return order[at-1]
	}
	cells := bounded(9, 64)
	root, n, e := bulk.Build(s, slices.Values(cells), 128)
	same(t, "Build", e, api.OK)
	same(t, "how many", n, 18)
	same(t, "the root", root, 77)
	want := []act{{"spare", 13}}
	for _, page := range order {
		want = append(want, act{"alloc", page}, act{"write", page})
	}
	sameList(t, "what the room was asked", s.acts, want)
	for i, page := range order {
		kind, got := s.cells(t, page)
		if i < 9 {
			same(t, "a leaf", kind, api.PageLeaf)
			sameCells(t, "a leaf", got, cells[2*i:2*i+2])
			continue
		}
		same(t, "a branch", kind, api.PageBranch)
	}
}
