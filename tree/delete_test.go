package tree_test

import (
	"fmt"
	"math/rand"
	"slices"
	"strings"
	"testing"

	"espalier/api"
	"espalier/node"
	"espalier/tree"
)

// P12.8: a key that is not there, of any length: the root as it is, and nothing has changed.
func TestDeleteOfNothing(t *testing.T) {
	for _, engine := range engines() {
		for _, g := range shapes(t, engine, 512) {
			s := g.room
			s.spare = 0
			for _, key := range nearKeys(g.cells) {
				if _, there := g.find([]byte(key)); there {
					continue
				}
				before := fmt.Sprint(s.held)
				root, c, is, e := tree.Delete(s, g.root, []byte(key))
				same(t, g.what+": Delete", e, api.OK)
				same(t, g.what+": the root", root, g.root)
				same(t, g.what+": there", is, false)
				sameCell(t, g.what, c, api.Cell{})
				same(t, g.what+": the pages", fmt.Sprint(s.held), before)
			}
			same(t, g.what+": asks other than reads", len(s.acts), len(s.asked("read", 0)))
		}
	}
}

// P12.8: the error of Get comes first; it is ErrFull only where there is such a key.
func TestWhichErrorOfDeleteIsFirst(t *testing.T) {
	for _, engine := range engines() {
		s := newShelf(engine, 512, 100)
		s.spare = 0
		s.held[8] = make([]byte, 512)
		s.leaf(t, 9, "m")
		s.branch(t, 7, lead("", 9, 1), lead("b", 50, 1))
		for _, x := range []struct {
			root int
			want api.Errno
		}{{50, api.ErrPage}, {8, api.ErrTree}, {7, api.ErrPage}, {9, api.ErrFull}} {
			root, c, is, e := tree.Delete(s, x.root, []byte("m"))
			same(t, fmt.Sprint("Delete of ", x.root), e, x.want)
			same(t, "the root beside the error", root, 0)
			same(t, "beside the error", is || !alike(c, api.Cell{}), false)
		}
		same(t, "asks other than to look", len(s.asked("alloc", 0))+len(s.asked("write", 0))+len(s.asked("free", 0)), 0)
	}
}

// P12.8, P12.9: every cell of every shape deleted alone, and then all the others, from either side; pages fresh or not.
func TestDeleteOfEveryCell(t *testing.T) {
	for _, engine := range engines() {
		for _, fresh := range []bool{true, false} {
			for _, shape := range shapes(t, engine, 512) {
				for i := range shape.cells {
					for _, last := range []bool{false, true} {
						g := *shape
						g.room, g.cells = shape.room.copied(fresh), slices.Clone(shape.cells)
						g.what += fmt.Sprint(", from ", i, last)
						g.del(string(g.cells[i].Key))
						for len(g.cells) > 0 {
							at := 0
							if last {
								at = len(g.cells) - 1
							}
							g.del(string(g.cells[at].Key))
						}
						same(t, g.what+": the root", g.root, 0)
						same(t, g.what+": pages left", len(g.room.held), 0)
					}
				}
			}
		}
	}
}

// P12.8, P12.9: all cells deleted in every order, down to the empty tree, in both engines, in pages of several sizes.
func TestDeleteInEveryOrder(t *testing.T) {
	for _, engine := range engines() {
		for _, size := range []int{512, 1024, 4096} {
			for sort, keys := range sorts(120) {
				for order, gone := range orders(keys) {
					if size > 1024 && order != "mixed" {
						continue
					}
					what := fmt.Sprintf("engine %d, %d bytes, %s, %s", engine, size, sort, order)
					s := newShelf(engine, size, 60000)
					g := planted(t, what, s)
					for i, key := range keys {
						g.put(value(key, long(i*37%97)))
					}
					s.settle()
					for i, key := range gone {
						g.del(key + "\x00")
						g.del(key)
						if i%4 == 0 {
							s.settle()
						}
						if i == len(gone)*4/5 && size == 512 {
							g.all()
						}
					}
					same(t, what+": the root", g.root, 0)
					same(t, what+": pages left", len(s.held), 0)
				}
			}
		}
	}
}

// I4: a page that would have one cell goes together with a neighbour, or takes from it, at either side, with neighbours of all lengths.
func TestThinPages(t *testing.T) {
	for _, engine := range engines() {
		for _, fresh := range []bool{true, false} {
			for beside := 2; beside < 24; beside++ {
				for _, length := range []int{0, 9, 90} {
					for _, at := range []int{0, 1, 2} {
						thinPage(t, engine, beside, length, at, fresh)
					}
				}
			}
		}
	}
}

// thinPage is a tree of three leaves, of which that at the place at has two cells, the others as many as fit, up to beside.
func thinPage(t *testing.T, engine, beside, length, at int, fresh bool) {
	laid := newShelf(engine, 512, 400)
	var leads, all []api.Cell
	for i := range 3 {
		var cells []api.Cell
		for n := range beside {
			c := value(fmt.Sprintf("%d%02d", i, n), long(length))
			if i == at && n == 2 || !node.Fits(engine, api.PageLeaf, append(cells, c), 512) {
				break
			}
			cells = append(cells, c)
		}
		laid.lay(t, 10+i, api.PageLeaf, cells...)
		leads = append(leads, lead(fmt.Sprint(i), 10+i, len(cells)))
		all = append(all, cells...)
	}
	leads[0].Key = nil
	laid.lay(t, 2, api.PageBranch, leads...)
	for n := range 2 {
		g := planted(t, fmt.Sprintf("a thin page, engine %d, %d beside it, %d bytes, at %d", engine, beside, length, at), laid.copied(fresh))
		g.root, g.cells = 2, slices.Clone(all)
		g.is, _ = laid.good(2)
		g.del(fmt.Sprintf("%d%02d", at, n))
	}
}

// P12.8: a root that leads to one page alone goes, and that page is the root; down to a leaf.
func TestLevelsGo(t *testing.T) {
	for _, engine := range engines() {
		for _, fresh := range []bool{true, false} {
			laid := newShelf(engine, 512, 400)
			root, keys := manyLevels(t, laid, 6)
			g := planted(t, "levels go", laid.copied(fresh))
			g.root, g.cells = root, values(keys...)
			g.is, _ = laid.good(root)
			seen := map[int]bool{}
			for _, key := range keys {
				seen[g.is.levels] = true
				g.del(key)
			}
			same(t, "the root", g.root, 0)
			same(t, "pages left", len(g.room.held), 0)
			for _, levels := range []int{6, 1} {
				same(t, fmt.Sprint("levels: ", levels), seen[levels], true)
			}
		}
	}
}

// P12.8: where two leaves share their cells anew the bound between them may be longer than it was: a branch that is just full is cut by a Delete.
func TestBranchesCutByDelete(t *testing.T) {
	for _, engine := range engines() {
		for _, fresh := range []bool{true, false} {
			grew := 0
			for at := range 6 {
				s := newShelf(engine, 512, 60000)
				g := boundsGrow(t, s, at)
				for n := range s.held {
					s.fresh[n] = fresh
				}
				g.del(string(g.cells[at*2].Key))
				grew += g.grew
			}
			same(t, fmt.Sprintf("engine %d: branches were cut", engine), grew > 0, true)
		}
	}
}

// boundsGrow is a full branch over leaves of two cells; only the leaf behind the one at the place at is full, of keys with a long stem.
func boundsGrow(t *testing.T, s *shelf, at int) *garden {
	stem := fmt.Sprintf("%c", 'a'+at+1) + strings.Repeat("s", 59)
	g := fullBranch(t, s, func(i int) string { return fmt.Sprintf("%c", 'a'+i) })
	g.what += fmt.Sprint(", bounds grow at ", at)
	var cells []api.Cell
	for i := 0; ; i++ {
		c := value(stem+fmt.Sprintf("%03d", i), long(10))
		if !node.Fits(s.engine, api.PageLeaf, append(cells, c), s.size) {
			break
		}
		cells = append(cells, c)
	}
	s.lay(t, 100+at+1, api.PageLeaf, cells...)
	// What stays of the thin leaf has no room there.
	s.lay(t, 100+at, api.PageLeaf, value(string(g.cells[2*at].Key), ""), value(string(g.cells[2*at+1].Key), long(90)))
	_, leads, _ := s.load(2)
	leads[at+1].Count = len(cells)
	// The last leads give way, so that the branch is full to the byte, as far as can be.
	if !node.Fits(s.engine, api.PageBranch, leads, s.size) {
		leads = leads[:len(leads)-1]
	}
	s.lay(t, 2, api.PageBranch, leads...)
	for n := range s.held {
		if n != 2 && !slices.ContainsFunc(leads, func(c api.Cell) bool { return c.Page == n }) {
			delete(s.held, n)
		}
	}
	is, fault := s.good(2)
	if fault != "" {
		t.Fatal(fault)
	}
	g.is, g.cells = is, is.cells
	return g
}

// P12.8, P12.9: trees with cells of all lengths and kinds, thinned out and filled again, many times.
func TestThinnedAndFilled(t *testing.T) {
	for _, engine := range engines() {
		for _, size := range []int{512, 2048} {
			r := chance()
			s := newShelf(engine, size, 60000)
			g := planted(t, fmt.Sprintf("thinned and filled, engine %d, %d bytes", engine, size), s)
			for range 4 {
				for len(g.cells) < 250 {
					g.put(anyCell(r, size))
				}
				s.settle()
				for len(g.cells) > 20 {
					g.del(string(g.cells[r.Intn(len(g.cells))].Key))
				}
				g.all()
			}
		}
	}
}

// anyKey is a key that pages of that size take: short, long, with one of some stems, or beside all stems.
func anyKey(r *rand.Rand, size int) string {
	most := size / 8
	stems := []string{"", "\x00", "\xff", strings.Repeat("m", most-4), strings.Repeat("m", most-5) + "l", strings.Repeat("n", most-4), strings.Repeat("n", most/2), "n"}
	key := stems[r.Intn(len(stems))]
	for range 1 + r.Intn(4) {
		key += string([]byte{byte("\x00abcmn\xff"[r.Intn(7)])})
	}
	if r.Intn(4) == 0 {
		key += long(r.Intn(most))
	}
	return key[:min(len(key), most)]
}

// anyCell is one that may be in a leaf of that size.
func anyCell(r *rand.Rand, size int) api.Cell {
	key, most := anyKey(r, size), size*3/16
	switch r.Intn(12) {
	case 0:
		return spill(key, 2+r.Intn(65534), most+1+r.Intn(65536-most))
	case 1:
		return named(key, 2+r.Intn(65534), 1+r.Intn(1<<30))
	case 2:
		return named(key, 0, 0)
	case 3:
		return value(key, long(most))
	}
	return value(key, long(r.Intn(1+r.Intn(most+1))))
}
