package tree_test

import (
	"fmt"
	"slices"
	"testing"

	"espalier/api"
	"espalier/tree"
)

// failing makes a change in rooms that are alike but for the act that they refuse, one after the other: the refusal is handed on, and nothing is asked behind it.
func failing(t *testing.T, what string, laid *shelf, do func(s *shelf) (int, api.Cell, bool, api.Errno)) []act {
	t.Helper()
	whole := laid.copiedAs()
	if _, _, _, e := do(whole); e != api.OK {
		t.Fatalf("%s: %d", what, e)
	}
	for k, a := range whole.acts {
		if a.what == "spare" {
			continue
		}
		s := laid.copiedAs()
		s.fail = k
		root, c, is, e := do(s)
		at := fmt.Sprintf("%s: act %d, %s %d, refused", what, k, a.what, a.page)
		same(t, at, e, ofTheRoom)
		same(t, at+": the root", root, 0)
		same(t, at+": there", is, false)
		sameCell(t, at, c, api.Cell{})
		if !slices.Equal(s.acts, whole.acts[:k+1]) {
			t.Errorf("%s: %v was asked, want %v", at, s.acts, whole.acts[:k+1])
		}
	}
	return whole.acts
}

// P12.9: an error of the room at each of its calls, in Puts and Deletes that cut, join and share pages, fresh or not.
func TestAnErrorOfTheRoom(t *testing.T) {
	for _, engine := range engines() {
		for _, fresh := range []bool{true, false} {
			for _, g := range shapes(t, engine, 512) {
				laid := g.room.copied(fresh)
				for i, c := range append(values("new", "\x00\x00", "d0"), g.cells...) {
					failing(t, fmt.Sprint(g.what, ": Put ", i), laid, func(s *shelf) (int, api.Cell, bool, api.Errno) {
						return tree.Put(s, g.root, value(string(c.Key), long(96)))
					})
				}
				for i, c := range g.cells {
					failing(t, fmt.Sprint(g.what, ": Delete ", i), laid, func(s *shelf) (int, api.Cell, bool, api.Errno) {
						return tree.Delete(s, g.root, c.Key)
					})
				}
			}
			s := newShelf(engine, 512, 60000)
			g := fullBranch(t, s, func(i int) string { return string([]byte{byte(i + 1)}) })
			taken := 0
			for i := range 12 {
				c := value(fmt.Sprintf("\x03a%02d", i), long(90))
				acts := failing(t, fmt.Sprint("a Put below a full branch: ", i), g.room.copied(fresh), func(s *shelf) (int, api.Cell, bool, api.Errno) {
					return tree.Put(s, g.root, c)
				})
				g.put(c)
				taken = max(taken, len(acts)-len(slices.DeleteFunc(slices.Clone(acts), func(a act) bool { return a.what == "alloc" })))
			}
			same(t, "pages are taken on all levels", taken >= 3, true)
		}
	}
}

// P12.8: an error of the room in a Delete of a key that is not there.
func TestAnErrorOfTheRoomInALook(t *testing.T) {
	for _, engine := range engines() {
		for _, g := range shapes(t, engine, 512) {
			failing(t, g.what+": Delete of none", g.room, func(s *shelf) (int, api.Cell, bool, api.Errno) {
				to, c, is, e := tree.Delete(s, g.root, []byte("no such key"))
				if e == api.OK {
					same(t, "the root", to, g.root)
				}
				return to, c, is, e
			})
			failing(t, g.what+": Get", g.room, func(s *shelf) (int, api.Cell, bool, api.Errno) {
				c, is, e := tree.Get(s, g.root, []byte("k"))
				return 0, c, is, e
			})
			failing(t, g.what+": Rank", g.room, func(s *shelf) (int, api.Cell, bool, api.Errno) {
				n, e := tree.Rank(s, g.root, []byte("k"))
				return n, api.Cell{}, false, e
			})
			failing(t, g.what+": At", g.room, func(s *shelf) (int, api.Cell, bool, api.Errno) {
				c, is, e := tree.At(s, g.root, len(g.cells)/2)
				return 0, c, is, e
			})
			failing(t, g.what+": Height", g.room, func(s *shelf) (int, api.Cell, bool, api.Errno) {
				n, e := tree.Height(s, g.root)
				return n, api.Cell{}, false, e
			})
			failing(t, g.what+": Len", g.room, func(s *shelf) (int, api.Cell, bool, api.Errno) {
				n, e := tree.Len(s, g.root)
				return n, api.Cell{}, false, e
			})
			failing(t, g.what+": Pages", g.room, func(s *shelf) (int, api.Cell, bool, api.Errno) {
				l, e := tree.Pages(s, g.root)
				return len(l), api.Cell{}, false, e
			})
		}
	}
}

// P12.9: a room that has fewer pages than its Spare says: its ErrFull is handed on.
func TestARoomThatSaysTooMuch(t *testing.T) {
	for _, engine := range engines() {
		for _, g := range shapes(t, engine, 512) {
			s := g.room.copied(false)
			s.spare, s.pick = 1<<40, func(s *shelf) int { return 0 }
			root, _, _, e := tree.Put(s, g.root, value("new", ""))
			same(t, g.what+": Put", e, api.ErrFull)
			same(t, g.what+": Put", root, 0)
		}
	}
}

// P12.10: all pages are given back, by rising numbers, and nothing else is done.
func TestDrop(t *testing.T) {
	for _, engine := range engines() {
		for _, fresh := range []bool{true, false} {
			for _, g := range shapes(t, engine, 512) {
				s := g.room.copied(fresh)
				s.leaf(t, 400, "k")
				same(t, g.what+": Drop", tree.Drop(s, g.root), api.OK)
				sameList(t, g.what+": given back", s.asked("free", 0), g.is.pages)
				same(t, g.what+": other asks", len(s.acts), len(s.asked("free", 0))+len(s.asked("read", 0)))
				same(t, g.what+": pages left", len(s.held), 1)
				if g.root != 0 {
					same(t, g.what+": Drop again", tree.Drop(s, g.root), api.ErrPage)
				}
			}
		}
	}
}

// P12.10: an error of the room is handed on at once, at each of its calls.
func TestAnErrorOfTheRoomInDrop(t *testing.T) {
	for _, engine := range engines() {
		for _, g := range shapes(t, engine, 512) {
			acts := failing(t, g.what+": Drop", g.room, func(s *shelf) (int, api.Cell, bool, api.Errno) {
				return 0, api.Cell{}, false, tree.Drop(s, g.root)
			})
			same(t, g.what+": acts", len(acts), 2*len(g.is.pages))
		}
	}
}

// P12.10: of what is no tree nothing is given back.
func TestDropOfOthers(t *testing.T) {
	for _, engine := range engines() {
		for _, g := range shapes(t, engine, 512) {
			for _, page := range g.is.pages {
				s := g.room.copied(true)
				delete(s.held, page)
				same(t, g.what+": a page lost", tree.Drop(s, g.root), api.ErrPage)
				same(t, g.what+": given back", len(s.asked("free", 0)), 0)
				s.held[page] = make([]byte, 512)
				same(t, g.what+": a page of zeros", tree.Drop(s, g.root), api.ErrTree)
				same(t, g.what+": given back", len(s.asked("free", 0)), 0)
				s.branch(t, page, lead("", g.root, 1))
				same(t, g.what+": a ring", tree.Drop(s, g.root), api.ErrTree)
				same(t, g.what+": given back", len(s.asked("free", 0)), 0)
			}
		}
		// Whether keys, Counts and depths are those of a good tree does not matter to it.
		s := newShelf(engine, 512, 40)
		s.leaf(t, 9, "z")
		s.lay(t, 8, api.PageLeaf)
		s.branch(t, 7, lead("", 8, 5))
		s.branch(t, 6, lead("", 9, 5), lead("b", 7, 1))
		same(t, "Drop", tree.Drop(s, 6), api.OK)
		sameList(t, "given back", s.asked("free", 0), []int{6, 7, 8, 9})
	}
}
