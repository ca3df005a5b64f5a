package grove_test

import (
	"fmt"
	"iter"
	"slices"
	"strings"
	"testing"

	"espalier/api"
	"espalier/bulk"
	"espalier/grove"
)

// stocked is a grove with the trees a, of some pairs and chains, b, of a few, and c, of none.
func stocked(t *testing.T, what string, s *shelf) *garden {
	t.Helper()
	g := planted(t, fmt.Sprint(what, ", engine ", s.engine, ", ", s.size, " bytes"), s)
	g.make("a", "b", "c")
	for i := range 30 {
		g.put("a", fmt.Sprintf("s%02d", i*7%30), long(i*i, byte(i)))
	}
	g.put("b", "k", "v")
	g.put("b", "l", long(1000, 'l'))
	return g
}

// P15.7: none, one, many pairs, short and long ones, over trees that have pairs and chains, and over one that has none.
func TestLoad(t *testing.T) {
	t.Parallel()
	for _, engine := range engines() {
		for _, size := range []int{512, 4096} {
			g := stocked(t, "Load", newShelf(engine, size))
			v := mostValue(size)
			for _, length := range []int{0, 1, 60, v, v + 1, 2 * size} {
				for _, n := range []int{0, 1, 2, 3, 30, 120} {
					for _, name := range []string{"a", "b", "c", "d"} {
						g.load(name, numbered(n, length)...)
					}
				}
				g.looks()
			}
			mixed := numbered(90, 0)
			for i := range mixed {
				mixed[i].value = long(i*31%500, byte(i))
			}
			g.load("a", mixed...)
			g.load("b", pair{strings.Repeat("k", mostKey(size)), long(65536, 'b')})
			g.looks()
			g.load("a")
			g.load("b")
			g.load("c")
			same(t, g.what+": the catalog alone has a page", len(g.room.held), 1)
		}
	}
}

// P15.7: pairs that fall, are equal, are no keys or no values, first, in the midst and last. A fault changes nothing, and behind it nothing is told.
func TestFaultsOfPairs(t *testing.T) {
	for _, engine := range engines() {
		g := stocked(t, "faults", newShelf(engine, 512))
		faults := []struct {
			of   func(ahead string) pair
			want api.Errno
		}{
			{func(ahead string) pair { return pair{"", "v"} }, api.ErrSize},
			{func(ahead string) pair { return pair{ahead + strings.Repeat("x", 65-len(ahead)), "v"} }, api.ErrSize},
			{func(ahead string) pair { return pair{long(70000, 0), "v"} }, api.ErrSize},
			{func(ahead string) pair { return pair{ahead + "x", long(65537, 'v')} }, api.ErrSize},
			// Of two errors ErrSize comes first.
			{func(ahead string) pair { return pair{ahead, long(65537, 'v')} }, api.ErrSize},
			{func(ahead string) pair { return pair{"", long(65537, 'v')} }, api.ErrSize},
			{func(ahead string) pair { return pair{ahead, "v"} }, api.ErrSorted},
			{func(ahead string) pair { return pair{"\x00", "v"} }, api.ErrSorted},
			{func(ahead string) pair { return pair{ahead[:max(len(ahead)-1, 0)], long(600, 'v')} }, api.ErrSorted},
		}
		for i, f := range faults {
			for _, at := range []int{0, 1, 10, 19} {
				l := numbered(20, 110)
				ahead := ""
				if at > 0 {
					ahead = l[at-1].key
				}
				l[at] = f.of(ahead)
				if f.want == api.ErrSorted && at == 0 {
					continue
				}
				c := g.loads("a", l...)
				same(t, fmt.Sprint("fault ", i, " at ", at), c.e, f.want)
				g.does(c)
				// A second fault behind the first one does not count.
				for _, second := range []pair{{"", ""}, {"\x00", ""}} {
					g.does(g.loads("a", append(slices.Clone(l[:at+1]), second)...))
				}
				g.does(g.loads("no-such-tree", l...))
			}
		}
		g.looks()
	}
}

// P15.7: pairs that are no function tell nothing.
func TestLoadOfNil(t *testing.T) {
	for _, engine := range engines() {
		g := stocked(t, "nil", newShelf(engine, 512))
		n, e := g.g.Load("no-such-tree", nil)
		same(t, "in no tree", e, api.ErrNoTree)
		same(t, "in no tree", n, 0)
		n, e = g.g.Load("a", nil)
		same(t, "nil", e, api.OK)
		same(t, "nil", n, 0)
		g.want["a"] = map[string]string{}
		root, count := g.g.Root()
		g.is = g.room.holds(t, "nil", root, count, g.want)
		g.looks()
	}
}

// R1: pairs that go on though they are told to end do no harm.
func TestPairsThatDoNotEnd(t *testing.T) {
	for _, engine := range engines() {
		g := stocked(t, "going on", newShelf(engine, 512))
		root, count := g.g.Root()
		image := g.room.image()
		for want, bad := range map[api.Errno]pair{api.ErrSize: {"", ""}, api.ErrSorted: {"a", "v"}} {
			goesOn := func(yield func(api.Pair) bool) {
				yield(pair{"b", "v"}.raw())
				for _, key := range []string{"c", "d", "e"} {
					same(t, "it is told to end", yield(bad.raw()), false)
					same(t, "it is told to end", yield(pair{key, "v"}.raw()), false)
				}
			}
			n, e := g.g.Load("a", goesOn)
			same(t, "Load", e, want)
			same(t, "Load", n, 0)
			r, k := g.g.Root()
			same(t, "the root", r, root)
			same(t, "how many trees", k, count)
			same(t, "the pages", g.room.image() == image, true)
		}
	}
}

// P15.7: a tree over which another one is loaded is as full as the fill says: it has the pages that bulk's Need tells.
func TestLoadedTreesHaveAsManyPagesAsNeeded(t *testing.T) {
	for _, engine := range engines() {
		for _, length := range []int{0, 30, 96, 97, 900} {
			for _, n := range []int{1, 2, 9, 100, 500} {
				l := numbered(n, length)
				g := planted(t, fmt.Sprint("loaded: ", n, " of ", length, ", engine ", engine), newShelf(engine, 512))
				g.make("a")
				g.load("a", l...)
				var cells []api.Cell
				for _, p := range l {
					cells = append(cells, cellOf(512, p))
				}
				want, _ := bulk.Need(engine, 512, 224, cells)
				same(t, g.what+": pages", len(g.is.trees["a"].pages) <= want, true)
			}
		}
	}
}

// cunning is pairs of which it matters with which a leaf begins: every seventh key differs from the one ahead of it in its first bytes, so that a short key leads to a leaf that begins with it; the others differ at their ends alone. Where the numbers of chains' pages take fewer bytes leaves begin elsewhere.
func cunning() []pair {
	var l []pair
	for i := range 1500 {
		group, at := (i+2)/7, (i+2)%7
		key := string([]byte{byte(group / 40), byte(group % 40)})
		if at > 0 {
			key += strings.Repeat("m", 61) + fmt.Sprint(at)
		}
		l = append(l, pair{key, long(97, byte(i))})
	}
	return l
}

// pagesMore is by how many pages the tree of these pairs is greater where their chains begin at pages of short numbers.
func pagesMore(t *testing.T, l []pair) int {
	t.Helper()
	var far, near []api.Cell
	for i, p := range l {
		far = append(far, spilled(p.key, 65535, len(p.value)))
		near = append(near, spilled(p.key, 2+i, len(p.value)))
	}
	n, e := bulk.Need(api.Packed, 512, 224, far)
	m, f := bulk.Need(api.Packed, 512, 224, near)
	same(t, "Need", e, api.OK)
	same(t, "Need", f, api.OK)
	return m - n
}

// P15.7: a Load takes no more pages than it asks for, also where the numbers of its chains' pages would have its leaves cut elsewhere.
func TestLoadTakesNoMoreThanItAsksFor(t *testing.T) {
	g := planted(t, "cunning pairs", newShelf(api.Packed, 512))
	g.make("a")
	l := cunning()
	same(t, "pages more, were the numbers in the cells", pagesMore(t, l) > 8, true)
	g.load("a", l...)
	g.load("a", l[:len(l)/2]...)
	g.looks()
}

// P15.7: loaded chains of scattered pages, with numbers of all lengths.
func TestLoadIntoScatteredPages(t *testing.T) {
	for _, engine := range engines() {
		for _, size := range []int{512, 1024} {
			s := newShelf(engine, size)
			s.pick = anyPage(chance())
			g := planted(t, "scattered", s)
			g.make("a", "b")
			for _, n := range []int{1, 7, 80, 300} {
				g.load("a", numbered(n, mostValue(size)+1)...)
				g.load("b", numbered(n, n)...)
			}
			g.looks()
		}
	}
}

// P15.7: the pairs of one tree are loaded into another one, through Scan. (They are told, all of them, ahead of the change.)
func TestLoadOfAScan(t *testing.T) {
	for _, engine := range engines() {
		g := stocked(t, "of a Scan", newShelf(engine, 512))
		root, n := g.g.Root()
		from := grove.Open(g.room, root, n)
		var of iter.Seq[api.Pair] = func(yield func(api.Pair) bool) {
			for p, e := range from.Scan("a", nil, nil, false) {
				if e != api.OK || !yield(p) {
					return
				}
			}
		}
		for _, name := range []string{"b", "c", "a"} {
			n, e := g.g.Load(name, of)
			same(t, "Load", e, api.OK)
			same(t, "Load", n, 30)
			g.want[name] = g.want["a"]
			root, count := g.g.Root()
			g.is = g.room.holds(t, "Load of a Scan", root, count, g.want)
			from = grove.Open(g.room, root, count)
		}
		g.looks()
	}
}
