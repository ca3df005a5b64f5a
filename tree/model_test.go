package tree_test

import (
	"fmt"
	"math/rand"
	"slices"
	"testing"

	"espalier/api"
	"espalier/pager"
	"espalier/plate"
	"espalier/tree"
)

// P12.7 to P12.9, P12.11: long runs of changes beside a sorted list, in both engines, in pages of several sizes, taken in several orders, in transactions of several lengths.
func TestLongRuns(t *testing.T) {
	for _, engine := range engines() {
		for _, size := range []int{512, 1024, 4096, 65536} {
			for order, pick := range map[string]func(r *rand.Rand) func(s *shelf) int{
				"least":  func(r *rand.Rand) func(s *shelf) int { return leastPage },
				"any":    anyPage,
				"rising": func(r *rand.Rand) func(s *shelf) int { return risingPage(60) },
			} {
				r := chance()
				s := newShelf(engine, size, 65536)
				s.pick = pick(r)
				g := planted(t, fmt.Sprintf("a long run, engine %d, %d bytes, %s", engine, size, order), s)
				longRun(r, g, min(1200, 1<<20/size))
				if order == "any" {
					g.all()
				}
				if levels := map[int]int{api.Plain: 4, api.Packed: 3}[engine]; size == 512 && g.most.levels < levels {
					t.Errorf("%s: never more than %d levels", g.what, g.most.levels)
				}
			}
		}
	}
}

// longRun makes so many changes; there are more and more cells, then fewer, and so on.
func longRun(r *rand.Rand, g *garden, changes int) {
	for i := range changes {
		deletes := 2
		if i/700%2 == 1 {
			deletes = 7
		}
		switch {
		case r.Intn(10) >= deletes:
			g.put(anyCell(r, g.room.size))
		case r.Intn(5) == 0:
			g.del(anyKey(r, g.room.size))
		case len(g.cells) > 0:
			g.del(string(g.cells[r.Intn(len(g.cells))].Key))
		}
		if r.Intn(1+i/100) == 0 {
			g.room.settle()
		}
	}
}

// P12.9: on benches, where all pages that are there are fresh: just the tree's pages are taken, and a root that need not go stays.
func TestRunsOnABench(t *testing.T) {
	for _, engine := range engines() {
		r := chance()
		b := bench(t, engine, 512, 2000)
		stray := []byte(long(512))
		b.Lay(77, stray)
		root, has := 0, map[string]string{}
		for i := range 1200 {
			c := value(anyKey(r, 512), long(r.Intn(97)))
			key := string(c.Key)
			v, was := has[key]
			if r.Intn(5) < 2+i/600 {
				to, old, is, e := tree.Delete(b, root, c.Key)
				same(t, "Delete", e, api.OK)
				same(t, "Delete", is, was)
				same(t, "Delete", string(old.Value), v)
				delete(has, key)
				root = to
			} else {
				to, old, is, e := tree.Put(b, root, c)
				same(t, "Put", e, api.OK)
				same(t, "Put", is, was)
				same(t, "Put", string(old.Value), v)
				has[key] = string(c.Value)
				root = to
			}
			n, _ := tree.Len(b, root)
			same(t, "Len", n, len(has))
			pages, e := tree.Pages(b, root)
			same(t, "Pages", e, api.OK)
			sameList(t, "pages taken", without(b.Taken(), []int{77}), pages)
			if t.Failed() {
				return
			}
		}
		for key, v := range has {
			c, is, _ := tree.Get(b, root, []byte(key))
			same(t, "Get", is, true)
			same(t, "Get", string(c.Value), v)
		}
		left, _ := b.Read(77)
		same(t, "what is no page of the tree", string(left), string(stray))
	}
}

// past is an old root, and what it told when it was the root.
type past struct {
	room  api.Room
	root  int
	cells []api.Cell
	pages []int
}

// tells holds what an old root tells against what it told.
func (p past) tells(t *testing.T, what string) {
	t.Helper()
	n, e := tree.Len(p.room, p.root)
	same(t, what+": Len", e, api.OK)
	same(t, what+": Len", n, len(p.cells))
	l, e := tree.Pages(p.room, p.root)
	same(t, what+": Pages", e, api.OK)
	sameList(t, what+": Pages", l, p.pages)
	for i, want := range p.cells {
		c, is, e := tree.Get(p.room, p.root, want.Key)
		same(t, what+": Get", e, api.OK)
		same(t, what+": Get", is, true)
		sameCell(t, what+": Get", c, want)
		c, is, _ = tree.At(p.room, p.root, i)
		same(t, what+": At", is, true)
		sameCell(t, what+": At", c, want)
		n, _ := tree.Rank(p.room, p.root, want.Key)
		same(t, what+": Rank", n, i)
	}
}

// P12.11: old roots on a shelf, as long as what was given back is not taken again.
func TestOldRoots(t *testing.T) {
	for _, engine := range engines() {
		r := chance()
		s := newShelf(engine, 512, 60000)
		g := planted(t, fmt.Sprint("old roots, engine ", engine), s)
		var olds []past
		for range 12 {
			for range 40 {
				if len(g.cells) > 0 && r.Intn(3) == 0 {
					g.del(string(g.cells[r.Intn(len(g.cells))].Key))
				} else {
					g.put(anyCell(r, 512))
				}
			}
			// A commit, while older roots are looked at: what waits goes on waiting.
			clear(s.fresh)
			view := newShelf(engine, 512, 60000)
			for n, b := range s.held {
				view.held[n] = b
			}
			olds = append(olds, past{view, g.root, slices.Clone(g.cells), g.is.pages})
			for i, old := range olds {
				old.tells(t, fmt.Sprintf("%s, root %d of %d", g.what, i, len(olds)))
			}
		}
	}
}

// P12.11: old roots in views of a pager, while its transactions go on; trees in pages that the pager hands out.
func TestOldRootsInViews(t *testing.T) {
	for _, engine := range engines() {
		r := chance()
		p, e := pager.Open(plate.New(512, 4000), engine)
		same(t, "Open", e, api.OK)
		root := 0
		var cells []api.Cell
		var olds []past
		for txn := range 10 {
			x, e := p.Begin()
			same(t, "Begin", e, api.OK)
			for range 50 {
				root, cells = pagerChange(t, r, x, root, cells)
			}
			pages, e := tree.Pages(x, root)
			same(t, "Pages", e, api.OK)
			if txn%4 == 3 {
				// What a transaction that is given up has done is seen nowhere.
				same(t, "Rollback", x.Rollback(), api.OK)
				last := olds[len(olds)-1]
				root, cells = last.root, slices.Clone(last.cells)
				continue
			}
			same(t, "SetRoot", x.SetRoot(root, 1), api.OK)
			_, e = x.Commit()
			same(t, "Commit", e, api.OK)
			v, e := p.View()
			same(t, "View", e, api.OK)
			olds = append(olds, past{v, root, slices.Clone(cells), pages})
			for i, old := range olds {
				old.tells(t, fmt.Sprintf("engine %d, view %d of %d", engine, i, len(olds)))
			}
			inUse(t, p, pages)
		}
	}
}

// pagerChange puts or deletes a cell in a transaction.
func pagerChange(t *testing.T, r *rand.Rand, x *pager.Txn, root int, cells []api.Cell) (int, []api.Cell) {
	t.Helper()
	if len(cells) > 0 && r.Intn(3) == 0 {
		at := r.Intn(len(cells))
		root, old, is, e := tree.Delete(x, root, cells[at].Key)
		same(t, "Delete", e, api.OK)
		same(t, "Delete", is, true)
		sameCell(t, "Delete", old, cells[at])
		return root, slices.Delete(cells, at, at+1)
	}
	c := anyCell(r, 512)
	g := garden{cells: cells}
	at, there := g.find(c.Key)
	root, _, is, e := tree.Put(x, root, c)
	same(t, "Put", e, api.OK)
	same(t, "Put", is, there)
	if there {
		cells[at] = c
		return root, cells
	}
	return root, slices.Insert(cells, at, c)
}

// inUse: behind a commit the pages in use are the tree's and the list's.
func inUse(t *testing.T, p *pager.Pager, pages []int) {
	t.Helper()
	m := p.Meta()
	list := (m.Listed + 124) / 125
	same(t, "pages that are the tree's, listed, or the list's", m.High-2-len(pages)-m.Listed >= list-1, true)
	same(t, "pages that are the tree's, listed, or the list's", m.High-2-len(pages)-m.Listed <= list+1, true)
}

// P12.7, P12.8, P12.10: in a view nothing is changed.
func TestChangesInAView(t *testing.T) {
	p, _ := pager.Open(plate.New(512, 400), api.Plain)
	x, _ := p.Begin()
	root, _, _, e := tree.Put(x, 0, value("a", "1"))
	same(t, "Put", e, api.OK)
	x.SetRoot(root, 1)
	x.Commit()
	v, _ := p.View()
	same(t, "Put", putOf(v, root, value("b", "")), "error 5")
	same(t, "Put into the empty tree", putOf(v, 0, value("b", "")), "error 5")
	same(t, "Delete", deleteOf(v, root, "a"), "error 5")
	same(t, "Delete of none", deleteOf(v, root, "b"), fmt.Sprint(root, " none"))
	same(t, "Drop", tree.Drop(v, root), api.ErrState)
	same(t, "Get", getOf(v, root, "a"), "0 a:1")
	v.Close()
	same(t, "Get in a closed view", getOf(v, root, "a"), "error 113")
	same(t, "Put in a closed view", putOf(v, root, value("a", "")), "error 113")
}

// P12.7, P12.8: a transaction whose device is down, and one that is over.
func TestADeviceThatIsDown(t *testing.T) {
	d := plate.New(512, 400)
	p, _ := pager.Open(d, api.Packed)
	x, _ := p.Begin()
	root, _, _, _ := tree.Put(x, 0, value("a", "1"))
	d.Arm(0, api.Fall{Torn: -1})
	d.Sync()
	for _, l := range allLooks() {
		e, zero := l.do(x, root)
		same(t, l.what, e, api.ErrDown)
		same(t, l.what+": zero beside the error", zero, true)
	}
	same(t, "Put into the empty tree", putOf(x, 0, value("a", "")), "error 5")
}
