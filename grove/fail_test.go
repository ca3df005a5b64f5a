package grove_test

import (
	"fmt"
	"slices"
	"testing"

	"espalier/api"
	"espalier/grove"
)

// many is a grove with a catalog of two levels and trees of several, with chains.
func many(t *testing.T, engine int) *garden {
	t.Helper()
	g := planted(t, fmt.Sprint("many, engine ", engine), newShelf(engine, 512))
	for i := range 30 {
		c := g.makes(fmt.Sprintf("tree-%02d-of-many", i))
		g.g, g.is = g.try("", g.room, c)
		g.want = c.then
	}
	g.make("a", "b")
	g.load("a", numbered(50, 70)...)
	g.put("a", "k00020", long(700, 'l'))
	g.put("a", "k00049", long(97, 'l'))
	g.put("b", "k", "v")
	same(t, g.what+": levels of the catalog", g.is.catalog.levels, 2)
	same(t, g.what+": levels of a tree", g.is.trees["a"].levels >= 2, true)
	return g
}

// changes are changes of that grove that cut, join and give back pages.
func changes(g *garden) []change {
	return []change{
		g.makes("c"), g.drops("a"), g.drops("b"), g.drops("tree-07-of-many"),
		g.puts("a", "k00020", "short"), g.puts("a", "k00020", long(1200, 'n')), g.puts("a", "k00010", long(96, 'n')), g.puts("a", "k000005", long(96, 'n')),
		g.puts("a", "new", long(300, 'n')), g.puts("tree-07-of-many", "k", "v"), g.puts("b", "l", long(5000, 'l')),
		g.deletes("a", "k00020"), g.deletes("a", "k00000"), g.deletes("a", "k00049"), g.deletes("b", "k"),
		g.loads("a", numbered(20, 90)...), g.loads("a", numbered(9, 300)...), g.loads("a"), g.loads("b", numbered(40, 60)...), g.loads("tree-07-of-many", numbered(3, 9)...),
	}
}

// P15.2, P15.3, P15.5 to P15.7: an error of the room at each of its calls is handed on; nothing is asked behind it.
func TestAnErrorOfTheRoomInAChange(t *testing.T) {
	for _, engine := range engines() {
		g := many(t, engine)
		root, count := g.g.Root()
		kinds := map[string]int{}
		for _, c := range changes(g) {
			for _, fresh := range []bool{true, false} {
				whole := roomFor(g, fresh)
				if _, e := c.do(grove.Open(whole, root, count)); e != api.OK {
					t.Fatalf("%s: %d", c.what, e)
				}
				for k, a := range whole.acts {
					if a.what == "spare" {
						continue
					}
					kinds[a.what]++
					s := roomFor(g, fresh)
					s.fail = k
					at := grove.Open(s, root, count)
					answer, e := c.do(at)
					what := fmt.Sprintf("%s: act %d, %s %d, refused", c.what, k, a.what, a.n)
					same(t, what, e, ofTheRoom)
					same(t, what, answer, 0)
					same(t, what+": what was asked", slices.Equal(s.acts, whole.acts[:k+1]), true)
					r, n := at.Root()
					same(t, what+": the root", r, root)
					same(t, what+": how many trees", n, count)
				}
				if t.Failed() {
					t.FailNow()
				}
			}
		}
		for _, what := range []string{"read", "alloc", "write", "free"} {
			same(t, what+": is refused now and then", kinds[what] > 20, true)
		}
	}
}

func roomFor(g *garden, fresh bool) *shelf {
	if fresh {
		return g.room.copied()
	}
	return g.room.settled()
}

// R4: as long as it only reads, a change that meets an error has changed nothing; also one that finds a page of a chain, or of the tree, that is lost.
func TestAnErrorAheadOfAChange(t *testing.T) {
	for _, engine := range engines() {
		g := many(t, engine)
		root, count := g.g.Root()
		for _, page := range g.is.pages {
			for _, c := range changes(g) {
				s := g.room.copied()
				delete(s.held, page)
				image := s.image()
				at := grove.Open(s, root, count)
				answer, e := c.do(at)
				what := fmt.Sprintf("%s, page %d lost", c.what, page)
				if e == api.OK {
					// It has no need of that page.
					continue
				}
				same(t, what, e, api.ErrPage)
				same(t, what, answer, 0)
				r, n := at.Root()
				same(t, what+": the root", r, root)
				same(t, what+": how many trees", n, count)
				if len(s.asked("alloc"))+len(s.asked("write"))+len(s.asked("free")) == 0 {
					same(t, what+": the pages", s.image() == image, true)
				}
			}
		}
		// What goes with a tree is looked for ahead of all else.
		_, chain := (&surveyor{s: g.room}).value(spilled("k00020", cellAt(g.is.trees["a"].cells, "k00020").Page, 700))
		for _, c := range []change{g.drops("a"), g.puts("a", "k00020", ""), g.puts("a", "k00020", long(2000, 'n')), g.deletes("a", "k00020"), g.loads("a")} {
			s := g.room.copied()
			delete(s.held, chain[1])
			_, e := c.do(grove.Open(s, root, count))
			same(t, c.what+", of a chain a page of which is lost", e, api.ErrPage)
			s.justAsked(t, c.what, 0)
		}
	}
}

func cellAt(l []api.Cell, key string) api.Cell {
	return l[slices.IndexFunc(l, func(c api.Cell) bool { return string(c.Key) == key })]
}

// P15.1, P15.4: an error of the room at each read of a look is handed on, beside zero values.
func TestAnErrorOfTheRoomInALook(t *testing.T) {
	for _, engine := range engines() {
		g := many(t, engine)
		root, count := g.g.Root()
		looks := map[string]func(at *grove.Grove) (bool, api.Errno){
			"Names": func(at *grove.Grove) (bool, api.Errno) { l, e := at.Names(); return len(l) > 0, e },
			"Tree": func(at *grove.Grove) (bool, api.Errno) {
				root, n, e := at.Tree("a")
				return root != 0 || n != 0, e
			},
			"Len":  func(at *grove.Grove) (bool, api.Errno) { n, e := at.Len("a"); return n != 0, e },
			"Rank": func(at *grove.Grove) (bool, api.Errno) { n, e := at.Rank("a", []byte("k00030")); return n != 0, e },
			"Get": func(at *grove.Grove) (bool, api.Errno) {
				v, is, e := at.Get("a", []byte("k00020"))
				return is || len(v) > 0, e
			},
			"At": func(at *grove.Grove) (bool, api.Errno) {
				p, is, e := at.At("a", 20)
				return is || asPair(p) != pair{}, e
			},
			"Delete of none": func(at *grove.Grove) (bool, api.Errno) {
				is, e := at.Delete("a", []byte("k00020x"))
				return e == api.OK || is, e
			},
		}
		for what, look := range looks {
			whole := g.room.copied()
			is, e := look(grove.Open(whole, root, count))
			same(t, what, e, api.OK)
			same(t, what+": there is something", is, true)
			whole.justLooked(t, what, 0)
			for k := range whole.acts {
				s := g.room.copied()
				s.fail = k
				is, e := look(grove.Open(s, root, count))
				same(t, fmt.Sprint(what, ", read ", k, " refused"), e, ofTheRoom)
				same(t, fmt.Sprint(what, ", read ", k, " refused"), is, false)
				same(t, fmt.Sprint(what, ", read ", k, " refused: acts"), len(s.acts), k+1)
			}
		}
	}
}

// A room that has fewer pages than its Spare says: its ErrFull is handed on.
func TestARoomThatSaysTooMuch(t *testing.T) {
	for _, engine := range engines() {
		g := many(t, engine)
		root, count := g.g.Root()
		for _, c := range changes(g) {
			for _, fresh := range []bool{true, false} {
				s := roomFor(g, fresh)
				whole := roomFor(g, fresh)
				c.do(grove.Open(whole, root, count))
				if len(whole.asked("alloc")) == 0 {
					continue
				}
				at := grove.Open(boaster{s}, root, count)
				s.left = len(whole.asked("alloc")) - 1
				answer, e := c.do(at)
				same(t, c.what+", one page too few", e, api.ErrFull)
				same(t, c.what+", one page too few", answer, 0)
			}
		}
	}
}

// boaster is a room that says that it has any number of pages.
type boaster struct{ *shelf }

func (b boaster) Spare(n int) bool { return true }
