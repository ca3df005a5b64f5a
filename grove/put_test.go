package grove_test

import (
	"fmt"
	"slices"
	"strings"
	"testing"

	"espalier/api"
	"espalier/grove"
)

// P15.5, P15.6: keys of 0, 1, MostKey and one byte more, values of 0, MostValue and one byte more, 65536 and one byte more, in pages of unlike sizes.
func TestSizes(t *testing.T) {
	t.Parallel()
	for _, engine := range engines() {
		for _, size := range []int{512, 1024, 4096, 65536} {
			g := planted(t, fmt.Sprint("sizes, engine ", engine, ", ", size, " bytes"), newShelf(engine, size))
			g.make("a")
			m, v := mostKey(size), mostValue(size)
			for i, n := range []int{0, 1, m - 1, m, m + 1, m + 70000} {
				key := strings.Repeat("k", n)
				for _, k := range []int{0, 1, v, v + 1, size - 16, size - 15, 65536, 65537} {
					g.put("a", key, long(k, byte(i)))
				}
				g.del("a", key)
				g.put("a", key, long(v+1, byte(i)))
			}
			same(t, g.what+": pairs", len(g.want["a"]), 3)
			g.looks()
			for _, p := range g.want.rising("a") {
				g.del("a", p.key)
			}
			same(t, g.what+": pages left", len(g.room.held), 1)
		}
	}
}

// P15.5: a value over another one, short or long, first, in the midst and last; the old chain's pages are given back.
func TestPutOver(t *testing.T) {
	t.Parallel()
	for _, engine := range engines() {
		for _, size := range []int{512, 2048} {
			v := mostValue(size)
			lengths := []int{0, v, v + 1, size - 16, size - 15, 3 * size, 65536}
			for _, old := range lengths {
				g := planted(t, fmt.Sprint("over ", old, " bytes, engine ", engine, ", ", size), newShelf(engine, size))
				g.make("a", "b")
				g.load("b", numbered(3, v+9)...)
				g.load("a", numbered(20, v)...)
				for _, now := range lengths {
					for _, key := range []string{"k00000", "k00010", "k00019", "new"} {
						g.put("a", key, long(old, 'o'))
						pages := len(g.room.held)
						g.put("a", key, long(now, 'n'))
						same(t, g.what+": it was there", g.puts("a", key, "").answer, 1)
						if old > v && now <= v && len(g.room.held) >= pages {
							// The tree's own pages may be cut, which makes two more at most.
							more := len(g.room.held) - pages + chainPages(size, old)
							same(t, g.what+": the chain is given back", more <= 2, true)
						}
					}
				}
				g.looks()
			}
		}
	}
}

// P15.5: which error comes first. (That each of them goes ahead of ErrFull is held by does.)
func TestErrorsOfPut(t *testing.T) {
	for _, engine := range engines() {
		g := planted(t, fmt.Sprint("errors of Put, engine ", engine), newShelf(engine, 512))
		g.make("a")
		g.put("a", "k", long(300, 'v'))
		for _, x := range []struct {
			name, key string
			n         int
			want      api.Errno
		}{
			{"b", "k", 1, api.ErrNoTree}, {"b", "", 65537, api.ErrNoTree}, {"", "", 0, api.ErrNoTree}, {"A", long(65, 'k'), 0, api.ErrNoTree},
			{long(70000, 'a'), "k", 0, api.ErrNoTree}, {"a\x00", "k", 0, api.ErrNoTree},
			{"a", "", 0, api.ErrSize}, {"a", "", 65537, api.ErrSize}, {"a", long(65, 'k'), 0, api.ErrSize}, {"a", "k", 65537, api.ErrSize}, {"a", "l", 1 << 20, api.ErrSize},
		} {
			c := g.puts(x.name, x.key, long(x.n, 'v'))
			same(t, c.what, c.e, x.want)
			g.does(c)
		}
	}
}

// P15.5: keys of any bytes stand by their bytes; equal values at many keys have chains of their own.
func TestKeysOfAnyBytes(t *testing.T) {
	t.Parallel()
	for _, engine := range engines() {
		g := planted(t, fmt.Sprint("any bytes, engine ", engine), newShelf(engine, 512))
		g.make("a", "b")
		for i := range 256 {
			key := string([]byte{byte(i * 91)})
			g.put("a", key, long(120, 's'))
			if i%5 == 0 {
				g.put("a", key+"\x00", "")
				g.put("b", key, long(120, 's'))
				g.put("a", key+"\xff\xff", "\x00")
			}
		}
		g.looks()
	}
}

// P15.6: Delete of what is there, of what is not there, of what is no key, in this and in other trees.
func TestDelete(t *testing.T) {
	t.Parallel()
	for _, engine := range engines() {
		for _, length := range []int{0, 60, 97, 600} {
			g := planted(t, fmt.Sprint("Delete, values of ", length, ", engine ", engine), newShelf(engine, 512))
			g.make("a", "b", "c")
			l := numbered(60, length)
			g.load("a", l...)
			g.load("b", l[:7]...)
			for i := range l {
				key := l[i*37%len(l)].key
				for _, none := range []string{"", "\x00", key + "\x00", key[:3], long(64, 'k'), long(65, 'k'), "\xff"} {
					g.del("a", none)
				}
				g.del("c", key)
				g.del("d", key)
				g.del("d", "")
				g.del("a", key)
				g.del("a", key)
			}
			root, n, e := g.g.Tree("a")
			same(t, g.what+": Tree", e, api.OK)
			same(t, g.what+": an empty tree's root", root, 0)
			same(t, g.what+": an empty tree's cells", n, 0)
			g.looks()
			g.put("a", "k", "again")
			g.looks()
		}
	}
}

// P15.3: trees of several levels with long values are dropped: all their pages, and no others, are given back.
func TestDrop(t *testing.T) {
	t.Parallel()
	for _, engine := range engines() {
		for _, fresh := range []bool{true, false} {
			g := planted(t, fmt.Sprint("Drop, engine ", engine, ", fresh ", fresh), newShelf(engine, 512))
			g.make("a", "b", "c", "d", "e")
			g.load("a", numbered(700, 90)...)
			g.load("b", numbered(40, 1200)...)
			g.load("c", numbered(1, 65536)...)
			g.load("e", numbered(90, 97)...)
			same(t, g.what+": levels", g.is.trees["a"].levels >= 3, true)
			if !fresh {
				g.room.settle()
			}
			g.drop("f")
			g.drop("")
			for _, name := range []string{"b", "a", "d", "c"} {
				before := g.is
				s := g.room.copied()
				root, n := g.g.Root()
				same(t, g.what+": Drop", grove.Open(s, root, n).Drop(name), api.OK)
				given := s.asked("free")
				slices.Sort(given)
				want := slices.Clone(before.trees[name].pages)
				for _, c := range before.trees[name].cells {
					_, chain := (&surveyor{s: g.room}).value(c)
					want = append(want, chain...)
				}
				slices.Sort(want)
				same(t, g.what+": given back", isWithin(want, given), true)
				g.drop(name)
				g.drop(name)
				g.looks()
			}
			g.drop("e")
			root, n := g.g.Root()
			same(t, g.what+": the root", root, 0)
			same(t, g.what+": trees", n, 0)
			same(t, g.what+": pages left", len(g.room.held), 0)
			g.looks()
			g.make("a")
			g.looks()
		}
	}
}

// isWithin tells whether all numbers stand among others.
func isWithin(l, others []int) bool {
	for _, n := range l {
		if !slices.Contains(others, n) {
			return false
		}
	}
	return true
}

// P15.5 to P15.7: what is done in one tree is nowhere seen in another one.
func TestTreesStandAlone(t *testing.T) {
	for _, engine := range engines() {
		g := planted(t, fmt.Sprint("alone, engine ", engine), newShelf(engine, 512))
		names := []string{"a", "b", "c"}
		g.make(names...)
		for i := range 90 {
			g.put(names[i%3], fmt.Sprint("k", i/3), long(i*3, byte(i)))
		}
		g.looks()
		for i := range 30 {
			g.del("b", fmt.Sprint("k", i))
		}
		g.load("c", numbered(3, 200)...)
		g.looks()
		g.drop("a")
		g.make("a")
		g.looks()
	}
}
