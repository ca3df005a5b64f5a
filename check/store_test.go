package check_test

import (
	"bytes"
	"fmt"
	"maps"
	"math/rand"
	"slices"
	"strings"
	"testing"

	"espalier/api"
	"espalier/bulk"
	"espalier/check"
	"espalier/free"
	"espalier/grove"
	"espalier/pager"
	"espalier/plate"
	"espalier/store"
)

// shop is a store that is worked on, and maps that go with it.
type shop struct {
	*rand.Rand
	t      *testing.T
	p      *plate.Plate
	engine int
	s      *store.Store
	had    map[string]map[string]string // the last commit's
	has    map[string]map[string]string // the open transaction's
}

func cloned(m map[string]map[string]string) map[string]map[string]string {
	c := map[string]map[string]string{}
	for name, tree := range m {
		c[name] = maps.Clone(tree)
	}
	return c
}

func opened(t *testing.T, r *rand.Rand, engine, size, pages int) *shop {
	p := plate.New(size, pages)
	s, e := store.Open(p, engine)
	stop(t, "Open", e)
	return &shop{r, t, p, engine, s, map[string]map[string]string{}, nil}
}

// work makes some changes in a transaction; where room is wanting nothing has changed.
func (w *shop) work() {
	stop(w.t, "Begin", w.s.Begin())
	w.has = cloned(w.had)
	names := []string{"a", "b/c", "d-_", "0"}
	for range 1 + w.Intn(30) {
		name := names[w.Intn(len(names))]
		_, is := w.has[name]
		switch k := w.Intn(40); {
		case !is:
			if w.s.Make(name) == api.OK {
				w.has[name] = map[string]string{}
			}
		case k == 0:
			if w.s.Drop(name) == api.OK {
				delete(w.has, name)
			}
		case k < 12:
			key := w.key()
			if _, e := w.s.Delete(name, []byte(key)); e == api.OK {
				delete(w.has[name], key)
			}
		case k == 12:
			w.load(name)
		default:
			w.put(name)
		}
	}
}

func (w *shop) key() string {
	return strings.Repeat(string(rune('a'+w.Intn(4))), w.Intn(30)) + fmt.Sprint(w.Intn(60))
}

func (w *shop) value() string {
	if w.Intn(5) == 0 {
		return string(text(w.Intn(6000)))
	}
	return string(text(w.Intn(60)))
}

func (w *shop) put(name string) {
	key, v := w.key(), w.value()
	if _, e := w.s.Put(name, []byte(key), []byte(v)); e == api.OK {
		w.has[name][key] = v
	}
}

func (w *shop) load(name string) {
	m := map[string]string{}
	for range w.Intn(80) {
		m[w.key()] = w.value()
	}
	var l []api.Pair
	for _, key := range slices.Sorted(maps.Keys(m)) {
		l = append(l, api.Pair{Key: []byte(key), Value: []byte(m[key])})
	}
	if _, e := w.s.Load(name, l); e == api.OK {
		w.has[name] = m
	}
}

// commit commits, if there is room for it.
func (w *shop) commit() {
	if _, e := w.s.Commit(); e == api.OK {
		w.had = w.has
		return
	}
	stop(w.t, "Rollback", w.s.Rollback())
}

func lines(m map[string]map[string]string) []string {
	var l []string
	for _, name := range slices.Sorted(maps.Keys(m)) {
		var pairs []string
		for _, key := range slices.Sorted(maps.Keys(m[name])) {
			pairs = append(pairs, key+"="+m[name][key])
		}
		l = append(l, name+": "+strings.Join(pairs, ","))
	}
	return l
}

// isWhole holds an image against the maps, and against P21.5.
func isWhole(t *testing.T, what string, image []byte, size int, want map[string]map[string]string) {
	t.Helper()
	r := against(t, what, image, size)
	same(t, what+": faults", told(r.faults), "")
	used, listed, free, e := check.Reach(image, size)
	stop(t, what, e)
	all := slices.Sorted(slices.Values(slices.Concat(used, listed, free)))
	var each []int
	for n := 2; n < r.meta.High; n++ {
		each = append(each, n)
	}
	sameList(t, what+": all pages, each once", all, each)
	names, trees, e := check.Trees(image, size)
	stop(t, what, e)
	sameList(t, what+": the trees", linesOf(names, trees), lines(want))
}

// P21.5, P17.11: behind each commit of a store nothing is wrong, and each page is in one place; in the midst of a transaction, too.
func TestStore(t *testing.T) {
	both(t, func(t *testing.T, engine int) {
		for _, size := range []int{512, 4096} {
			w := opened(t, chance(int64(size+engine)), engine, size, 600)
			isWhole(t, "a store that is begun", w.p.Image(), size, w.had)
			var views []*store.View
			for i := range 40 {
				what := fmt.Sprint("pages of ", size, ", commit ", i+1)
				if len(views) > 3 {
					views[0].Close()
					views = views[1:]
				}
				if v, e := w.s.View(); e == api.OK && w.Intn(3) == 0 {
					views = append(views, v)
				} else if e == api.OK {
					v.Close()
				}
				was := w.p.Image()
				w.work()
				same(t, what+": the image ahead of it is that of the commit before", bytes.Equal(w.p.Image(), was), true)
				w.commit()
				isWhole(t, what, w.p.Image(), size, w.had)
				if t.Failed() {
					return
				}
			}
		}
	})
}

// P21.5: wherever the power fails, what is there behind it is whole: the last commit, or the one that was under way.
func TestFalls(t *testing.T) {
	both(t, func(t *testing.T, engine int) {
		r := chance(int64(5 + engine))
		for acts := range 40 {
			w := opened(t, r, engine, 512, 600)
			for range 3 {
				w.work()
				w.commit()
			}
			w.work()
			var keep []int
			for n := range 40 {
				if r.Intn(2) == 0 {
					keep = append(keep, n)
				}
			}
			w.p.Arm(acts, api.Fall{Keep: keep, Torn: r.Intn(40) - 1, At: r.Intn(600)})
			_, e := w.s.Commit()
			l, f := check.Look(w.p.Image(), 512)
			same(t, fmt.Sprint("behind ", acts, " acts"), told(l)+fmt.Sprint(f), "0")
			names, trees, f := check.Trees(w.p.Image(), 512)
			stop(t, "Trees", f)
			got := linesOf(names, trees)
			switch {
			case e == api.OK || slices.Equal(got, lines(w.has)):
				sameList(t, "what is committed", got, lines(w.has))
			default:
				sameList(t, "the commit before", got, lines(w.had))
			}
		}
	})
}

// P21.5: what a pager's commit leaves, whose trees are a grove's.
func TestPager(t *testing.T) {
	both(t, func(t *testing.T, engine int) {
		p := plate.New(512, 300)
		pg, e := pager.Open(p, engine)
		stop(t, "Open", e)
		x, e := pg.Begin()
		stop(t, "Begin", e)
		g := grove.Open(x, 0, 0)
		want := map[string]map[string]string{}
		for i := range 40 {
			name := fmt.Sprint("tree/", i%20)
			if i < 20 {
				stop(t, "Make", g.Make(name))
				want[name] = map[string]string{}
			}
			v := strings.Repeat("v", i*30)
			_, e := g.Put(name, []byte(fmt.Sprint(i)), []byte(v))
			stop(t, "Put", e, x.SetRoot(g.Root()))
			want[name][fmt.Sprint(i)] = v
		}
		_, e = x.Commit()
		stop(t, "Commit", e)
		isWhole(t, "the first commit", p.Image(), 512, want)
		x, e = pg.Begin()
		stop(t, "Begin", e)
		root, count := x.Root()
		g = grove.Open(x, root, count)
		for i := range 10 {
			stop(t, "Drop", g.Drop(fmt.Sprint("tree/", i)))
			delete(want, fmt.Sprint("tree/", i))
		}
		stop(t, "SetRoot", x.SetRoot(g.Root()))
		_, e = x.Commit()
		stop(t, "Commit", e)
		isWhole(t, "the second commit", p.Image(), 512, want)
		// A page that is taken, and is in no tree, is committed all the same: it is lost.
		x, e = pg.Begin()
		stop(t, "Begin", e)
		n, e := x.Alloc()
		stop(t, "Alloc", e)
		_, e = x.Commit()
		stop(t, "Commit", e)
		looksAt(t, "a page that is in no tree", p.Image(), 512, fmt.Sprint("BadLost ", n, " 0"))
	})
}

// P21.5: trees that bulk has laid, as full as can be, and half full.
func TestBulk(t *testing.T) {
	both(t, func(t *testing.T, engine int) {
		for _, fill := range []int{128, 200, 256} {
			p := plate.New(512, 600)
			pg, e := pager.Open(p, engine)
			stop(t, "Open", e)
			x, e := pg.Begin()
			stop(t, "Begin", e)
			var cells []api.Cell
			want := map[string]map[string]string{"t": {}}
			for i := range 900 {
				key := fmt.Sprintf("%08d", i)
				cells = append(cells, value(key, "v"+key))
				want["t"][key] = "v" + key
			}
			root, count, e := bulk.Build(x, slices.Values(cells), fill)
			stop(t, "Build", e)
			catalog, trees, e := bulk.Build(x, slices.Values([]api.Cell{tree("t", root, count)}), fill)
			stop(t, "Build", e, x.SetRoot(catalog, trees))
			_, e = x.Commit()
			stop(t, "Commit", e)
			isWhole(t, fmt.Sprint("a fill of ", fill), p.Image(), 512, want)
		}
	})
}

// A list of many pages, as a pager writes it.
func TestPagersList(t *testing.T) {
	both(t, func(t *testing.T, engine int) {
		w := opened(t, chance(9), engine, 512, 2000)
		w.s.Begin()
		w.s.Make("a")
		for i := range 10 {
			w.s.Put("a", []byte(fmt.Sprint(i)), text(65000))
		}
		w.s.Commit()
		w.s.Begin()
		stop(t, "Drop", w.s.Drop("a"))
		w.s.Commit()
		_, listed, _, e := check.Reach(w.p.Image(), 512)
		stop(t, "Reach", e)
		same(t, "more than one page of a list", len(listed) > 1300/free.Room(512), true)
		isWhole(t, "a long list", w.p.Image(), 512, map[string]map[string]string{})
	})
}
