package ship_test

import (
	"fmt"
	"maps"
	"slices"
	"testing"

	"espalier/api"
	"espalier/plate"
	"espalier/ship"
	"espalier/store"
)

// P23.1: of each two looks of a drawn history, the pages that the later one has alone, as it reads them, held against what the checker tells of the image at that commit.
func TestTakeOfDrawnHistories(t *testing.T) {
	eachSize(t, func(t *testing.T, engine, size, pages int) {
		r, l := drawn(t, engine, size, pages, int64(size+engine), 12)
		some, none := 0, 0
		for i, to := range l {
			take(t, nil, to)
			for j, from := range l {
				if j > i {
					refuses(t, "a later one", from.v, to.v, api.ErrArg)
					continue
				}
				d := take(t, from, to)
				switch len(d.Pages) {
				case 0:
					none++
				default:
					some++
				}
				same(t, "no page of one commit", j == i && len(d.Pages) > 0, false)
			}
		}
		same(t, fmt.Sprint(some, " deltas with pages, ", none, " without"), some > 40 && none >= 13, true)
		r.rollbackAndClose()
	})
}

func (r *rig) rollbackAndClose() {
	r.t.Helper()
	must(r.t, "Rollback, Close", r.s.Rollback(), r.s.Close())
}

// P23.1: the pages of the free list are sent, those that it lists are not; so are those of chains, and of the catalog.
func TestWhichPagesAreTaken(t *testing.T) {
	for _, engine := range engines() {
		r := newRig(t, engine, 512, 900)
		r.began()
		one := r.make("a", "b").fill("a", 200, 90).put("b", "k", long(5000, 'k')).commit()
		two := r.drop("a").commit()
		three := r.delete("b", "k").commit()
		m := two.v.Meta()
		same(t, "pages are listed", m.Listed > 30 && m.Free > 0, true)
		for _, x := range []struct{ from, to *point }{{nil, two}, {one, two}, {two, three}, {nil, three}, {one, three}} {
			d := take(t, x.from, x.to)
			free := x.to.v.Meta().Free
			same(t, "the free list's page", slices.ContainsFunc(d.Pages, func(p api.PageData) bool { return p.Page == free && p.Data[0] == api.PageFree }), true)
			same(t, "the listed ones aside", len(d.Pages) <= len(x.to.pages), true)
		}
		chains := func(d api.Delta) (n int) {
			for _, p := range d.Pages {
				if p.Data[0] == api.PageSpill {
					n++
				}
			}
			return n
		}
		same(t, "chains' pages from nothing", chains(take(t, nil, two)), 11)
		same(t, "chains' pages that were there", chains(take(t, one, two)), 0)
		same(t, "chains' pages that are gone", chains(take(t, two, three)), 0)
	}
}

// P23.1: a free list of several pages, all of which are the commit's.
func TestTakeOfALongFreeList(t *testing.T) {
	for _, engine := range engines() {
		r := newRig(t, engine, 512, 900)
		one := r.make("a").fill("a", 900, 90).commit()
		two := r.drop("a").make("b").commit()
		same(t, "listed", two.v.Meta().Listed > 2*125, true)
		lists := 0
		for _, p := range take(t, one, two).Pages {
			if p.Data[0] == api.PageFree {
				lists++
			}
		}
		same(t, "more than two pages", lists > 2, true)
	}
}

// P23.1: trees of several levels, many trees, empty ones.
func TestTakeOfDeepAndManyTrees(t *testing.T) {
	for _, engine := range engines() {
		r := newRig(t, engine, 512, 3000)
		a := r.make("a").fill("a", 1500, 80).commit()
		for i := range api.MaxTrees - 1 {
			name := fmt.Sprintf("t%03d", i)
			r.make(name)
			if i%2 == 0 {
				r.put(name, "k", long(i*3, byte(i)))
			}
		}
		b := r.commit()
		c := r.put("a", "k0003", "other").commit()
		same(t, "pages of the deep one", len(take(t, nil, a).Pages) > 200, true)
		same(t, "pages of many", len(take(t, a, b).Pages) > 128, true)
		same(t, "pages of one change", len(take(t, b, c).Pages) < 30, true)
		take(t, a, c)
		take(t, nil, c)
	}
}

// P23.1: which error comes first.
func TestErrorsOfTake(t *testing.T) {
	for _, engine := range engines() {
		r, v := table(t, engine)
		s, w := table(t, engine)
		twin, e := r.s.View()
		must(t, "View", e)
		refuses(t, "to nil", nil, nil, api.ErrArg)
		refuses(t, "to nil", v[0].v, nil, api.ErrArg)
		refuses(t, "another store", w[1].v, v[2].v, api.ErrArg)
		refuses(t, "another store's of the same commit", w[3].v, v[3].v, api.ErrArg)
		for i := range v {
			for j := range i {
				refuses(t, "a later one", v[i].v, v[j].v, api.ErrArg)
			}
		}
		sameDelta(t, "two looks at one commit", must1(ship.Take(twin, v[3].v)), delta(v[3], v[3]))
		sameDelta(t, "two looks at one commit", must1(ship.Take(v[3].v, twin)), delta(v[3], v[3]))

		v[1].v.Close()
		v[3].v.Close()
		for range 2 {
			refuses(t, "from is closed", v[1].v, v[2].v, api.ErrView)
			refuses(t, "to is closed", v[2].v, v[3].v, api.ErrView)
			refuses(t, "both are closed", v[1].v, v[3].v, api.ErrView)
			refuses(t, "to is closed, from nothing", nil, v[3].v, api.ErrView)
			refuses(t, "a later one, closed", v[3].v, v[2].v, api.ErrArg)
			refuses(t, "one of another store, closed", v[3].v, w[3].v, api.ErrArg)
			refuses(t, "from a closed one to another store's", v[1].v, w[3].v, api.ErrArg)
			refuses(t, "to nil from a closed one", v[1].v, nil, api.ErrArg)
			r.p.Crash(api.Fall{Torn: -1})
		}
		refuses(t, "down", v[0].v, v[2].v, api.ErrDown)
		refuses(t, "down, from nothing", nil, v[2].v, api.ErrDown)
		refuses(t, "down, one commit", twin, twin, api.ErrDown)
		refuses(t, "down, of commit 0", nil, v[0].v, api.ErrDown)
		refuses(t, "down, a later one", twin, v[2].v, api.ErrArg)
		r.p.Start()
		refuses(t, "found down before", v[0].v, v[2].v, api.ErrDown)
		refuses(t, "closed, and found down before", v[1].v, v[2].v, api.ErrView)

		must(t, "Close", r.s.Close(), s.s.Close())
		refuses(t, "the store is closed, and down", v[0].v, v[2].v, api.ErrView)
		refuses(t, "the store is closed", w[0].v, w[2].v, api.ErrView)
		refuses(t, "the store is closed, from nothing", nil, w[2].v, api.ErrView)
		refuses(t, "a later one of a closed store", w[2].v, w[1].v, api.ErrArg)
	}
}

func must1[T any](v T, e api.Errno) T {
	if e != api.OK {
		panic(e)
	}
	return v
}

// P23.1: a device that fell and was started again behind the store's back is not down; one that fell in a Commit is.
func TestTakeBehindAFall(t *testing.T) {
	for _, engine := range engines() {
		r, v := table(t, engine)
		r.p.Crash(api.Fall{Torn: -1})
		r.p.Start()
		take(t, v[1], v[3])
		take(t, nil, v[2])
		r.p.Arm(1, api.Fall{Torn: -1})
		r.put("a", "k0001", "new")
		_, e := r.s.Commit()
		same(t, "Commit", e, api.ErrDown)
		refuses(t, "fallen in a Commit", v[1].v, v[3].v, api.ErrDown)
		r.p.Start()
		refuses(t, "and started again", v[1].v, v[3].v, api.ErrDown)
	}
}

// P23.1, P23.8: Take changes nothing, and does not look at what is not committed; the same is answered whatever is committed later.
func TestTakeChangesNothing(t *testing.T) {
	for _, engine := range engines() {
		r, v := table(t, engine)
		x := chance(9)
		for range 12 {
			r.some(x, 25)
			before, image, working := r.p.Counts(), string(r.p.Image()), r.working.lines()
			for i := range v {
				take(t, nil, v[i])
				for j := range i + 1 {
					take(t, v[j], v[i])
				}
			}
			after := r.p.Counts()
			same(t, "writes", after.Writes, before.Writes)
			same(t, "syncs", after.Syncs, before.Syncs)
			same(t, "the device", string(r.p.Image()) == image, true)
			sameList(t, "the working state", stateOf(t, r.s).lines(), working)
			v = append(v, r.commit())
		}
	}
}

// P23.1: a store whose last commit's number is the greatest.
func TestTakeOfTheLastCommit(t *testing.T) {
	for _, engine := range engines() {
		p := plate.New(512, 60)
		last := api.Meta{Engine: engine, Page: 512, Txn: api.MaxTxn - 1, High: 2}
		lay(t, p, 1, metaPage(t, last))
		s, e := store.Open(p, engine)
		must(t, "Open", e, s.Begin())
		r := &rig{t, p, s, state{}}
		a := r.began()
		r.make("a").put("a", "k", long(600, 'k'))
		_, e = s.Commit()
		must(t, "Commit", e)
		b := r.look(r.working)
		same(t, "the last one", b.txn(), api.MaxTxn)
		f := follow(t, plate.New(512, 60))
		for _, d := range []api.Delta{take(t, nil, a), take(t, a, b), take(t, b, b)} {
			c, e := ship.Decode(must1(ship.Encode(d)))
			must(t, "Decode", e)
			sameDelta(t, "Decode", c, d)
			must(t, "Apply", f.Apply(c))
			same(t, "At", f.At(), d.To)
		}
	}
}

// P23.1, R1: of a store that is broken each call ends, with a delta or an error.
func TestTakeOfBrokenStores(t *testing.T) {
	for _, engine := range engines() {
		t.Run(fmt.Sprint("engine ", engine), func(t *testing.T) {
			t.Parallel()
			r := newRig(t, engine, 512, 200)
			r.make("a", "b", "c").fill("a", 90, 60).put("b", "k", long(3000, 'k')).put("c", "l", long(600, 'l')).commit()
			r.drop("c").fill("b", 40, 30).commit()
			image := r.p.Image()
			x := chance(77)
			told, refused := 0, 0
			for round := range 1500 {
				spoilt := slices.Clone(image)
				p := loaded(t, spoilt, 512)
				s, e := store.Open(p, engine)
				must(t, "Open", e)
				v, e := s.View()
				must(t, "View", e, s.Begin())
				s.Put("a", []byte("k0001"), []byte("new"))
				_, e = s.Commit()
				must(t, "Commit", e)
				w, e := s.View()
				must(t, "View", e)
				for range 1 + x.Intn(4) {
					n := 2 + x.Intn(w.Meta().High-2)
					b, _ := p.Read(2 + x.Intn(w.Meta().High-2)) // a good page in a wrong place
					switch x.Intn(3) {
					case 0:
						b, _ = p.Read(n)
						b[x.Intn(512)] ^= byte(1 + x.Intn(255))
					case 1:
						b = []byte(long(512, byte(round)))
					}
					lay(t, p, n, b)
				}
				for _, y := range [][2]*store.View{{nil, v}, {nil, w}, {v, w}, {w, w}} {
					d, e := ship.Take(y[0], y[1])
					if e == api.OK {
						told++
						continue
					}
					refused++
					nowhere(t, "Take", d)
				}
			}
			same(t, fmt.Sprint(told, " told, ", refused, " refused"), told > 200 && refused > 200, true)
		})
	}
}

// P23.1, R1: trees that lead round, or over and over to the same pages, are gone through once: a branch stands in each place of all trees, and leads to these places.
func TestTakeOfTreesThatLeadRound(t *testing.T) {
	for _, engine := range engines() {
		r := newRig(t, engine, 512, 900)
		a := r.make("a").fill("a", 800, 60).commit()
		branch := ""
		for _, b := range a.pages {
			if b[0] == api.PageBranch && b > branch {
				branch = b
			}
		}
		same(t, "there is a branch", branch == "", false)
		for _, n := range slices.Sorted(maps.Keys(a.pages)) {
			if a.pages[n][0] != api.PageFree {
				lay(t, r.p, n, []byte(branch))
			}
		}
		before := r.p.Counts().Reads
		ship.Take(nil, a.v)
		ship.Take(a.v, a.v)
		same(t, "pages are read a few times each", r.p.Counts().Reads-before < 8*len(a.pages), true)
	}
}
