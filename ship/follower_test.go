package ship_test

import (
	"bytes"
	"fmt"
	"slices"
	"testing"

	"espalier/api"
	"espalier/meta"
	"espalier/plate"
	"espalier/ship"
	"espalier/store"
)

// taken is what a device's meta pages come to, by the chapter's words: the commit, and the page where it must be written still (-1: none).
func taken(p *plate.Plate) (m api.Meta, mend int, is bool) {
	image, size := p.Image(), p.Page()
	var copies [2]*api.Meta
	for n := range 2 {
		m, e := meta.Decode(image[n*size : (n+1)*size])
		if e == api.OK && m.Page == size && m.High <= p.Pages() {
			copies[n] = &m
		}
	}
	at := 0
	switch {
	case copies[0] == nil && copies[1] == nil:
		return api.Meta{}, -1, false
	case copies[0] == nil:
		at = 1
	case copies[1] == nil:
	case copies[0].Txn == copies[1].Txn:
		at = copies[0].Txn % 2
	case copies[1].Txn > copies[0].Txn:
		at = 1
	}
	m = *copies[at]
	if m.Txn%2 != at {
		return m, 1 - at, true
	}
	return m, -1, true
}

// tells is all that a store answers, errors too, as text.
func tells(s *store.Store, e api.Errno) string {
	if e != api.OK {
		return fmt.Sprint("error ", e, s == nil)
	}
	names, e := s.Names()
	text := fmt.Sprint(s.Txn(), names, e)
	for _, name := range names {
		pairs, e := s.Scan(name, nil, nil, api.MaxLimit, false)
		text += fmt.Sprint(name, pairs, e)
	}
	return text
}

// storeIs holds a follower's Store to answer as the words say.
func storeIs(t *testing.T, what string, f *ship.Follower, p *plate.Plate, m api.Meta, is bool) {
	t.Helper()
	got := tells(f.Store())
	if !is {
		same(t, what+": Store", got, fmt.Sprint("error ", api.ErrNoMeta, true))
		return
	}
	same(t, what+": Store", got, tells(store.Open(loaded(t, p.Image(), p.Page()), m.Engine)))
}

// metaPages are pages that may stand in page 0 or 1 of a device of 40 pages of 512 bytes.
func metaPages(t *testing.T) map[string][]byte {
	t.Helper()
	l := map[string][]byte{"zeros": make([]byte, 512), "noise": []byte(long(512, 3))}
	for _, engine := range engines() {
		for _, txn := range []int{0, 1, 2, 3, api.MaxTxn - 1, api.MaxTxn} {
			for _, high := range []int{2, 40, 41} {
				m := api.Meta{Engine: engine, Page: 512, Txn: txn, High: high}
				l[fmt.Sprint(txn, " of engine ", engine, " up to ", high)] = metaPage(t, m)
			}
		}
	}
	torn := metaPage(t, api.Meta{Engine: 1, Page: 512, Txn: 4, High: 2})
	l["torn"] = slices.Concat(torn[:300], make([]byte, 212))
	wrong := metaPage(t, api.Meta{Engine: 1, Page: 512, Txn: 4, High: 2})
	wrong[2] = 1
	l["wrong, but summed"] = resummed(wrong)
	l["a greater page's"] = metaPage(t, api.Meta{Engine: 1, Page: 1024, Txn: 4, High: 2})[:512]
	return l
}

// P23.3: of all that may stand in page 0 and in page 1, the commit that it has, and what is written.
func TestNewFollowerOfAllMetaPages(t *testing.T) {
	l := metaPages(t)
	for first, a := range l {
		for second, b := range l {
			what := first + "; " + second
			p := plate.New(512, 40)
			lay(t, p, 0, a)
			lay(t, p, 1, b)
			lay(t, p, 5, []byte(long(512, 9)))
			m, mend, is := taken(p)
			want := p.Image()
			before := p.Counts()
			if mend >= 0 {
				copy(want[mend*512:], metaPage(t, m))
			}
			f := follow(t, p)
			writes := 0
			if mend >= 0 {
				writes = 1
			}
			after := p.Counts()
			same(t, what+": At", f.At(), m.Txn)
			same(t, what+": writes", after.Writes-before.Writes, writes)
			same(t, what+": syncs", after.Syncs-before.Syncs, writes)
			same(t, what+": the device", bytes.Equal(p.Image(), want), true)
			same(t, what+": is safe", bytes.Equal(p.Safe(), want), true)
			storeIs(t, what, f, p, m, is)
			again, e := ship.NewFollower(p)
			must(t, what, e)
			same(t, what+": once more", again.At(), m.Txn)
			same(t, what+": nothing is written then", p.Counts().Writes, after.Writes)
		}
	}
}

// P23.3: some of them by hand.
func TestNewFollowerByHand(t *testing.T) {
	page := func(engine, txn, high int) []byte {
		return metaPage(t, api.Meta{Engine: engine, Page: 512, Txn: txn, High: high})
	}
	zeros := make([]byte, 512)
	for _, x := range []struct {
		what        string
		a, b        []byte
		at, writes  int
		first, last []byte
	}{
		{"nothing", zeros, zeros, 0, 0, zeros, zeros},
		{"commit 0", page(1, 0, 2), zeros, 0, 0, page(1, 0, 2), zeros},
		{"commit 0 in page 1", zeros, page(1, 0, 2), 0, 1, page(1, 0, 2), page(1, 0, 2)},
		{"commit 1 in page 0", page(2, 1, 2), zeros, 1, 1, page(2, 1, 2), page(2, 1, 2)},
		{"commit 1 ahead of commit 2 in the wrong places", page(1, 1, 2), page(1, 2, 2), 2, 1, page(1, 2, 2), page(1, 2, 2)},
		{"commits 2 and 3", page(1, 2, 2), page(1, 3, 2), 3, 0, page(1, 2, 2), page(1, 3, 2)},
		{"commits 4 and 3", page(1, 4, 2), page(1, 3, 2), 4, 0, page(1, 4, 2), page(1, 3, 2)},
		{"commit 5 in page 0, 3 in page 1", page(1, 5, 2), page(1, 3, 2), 5, 1, page(1, 5, 2), page(1, 5, 2)},
		{"commit 4 twice, not alike", page(1, 4, 2), page(2, 4, 3), 4, 0, page(1, 4, 2), page(2, 4, 3)},
		{"commit 5 twice, not alike", page(1, 5, 2), page(2, 5, 3), 5, 0, page(1, 5, 2), page(2, 5, 3)},
		{"as many pages as there are", page(1, 4, 40), page(1, 3, 2), 4, 0, page(1, 4, 40), page(1, 3, 2)},
		{"more than there are", page(1, 4, 41), page(1, 3, 2), 3, 0, page(1, 4, 41), page(1, 3, 2)},
		{"more than there are, and nothing", page(1, 4, 41), zeros, 0, 0, page(1, 4, 41), zeros},
	} {
		p := plate.New(512, 40)
		lay(t, p, 0, x.a)
		lay(t, p, 1, x.b)
		f := follow(t, p)
		same(t, x.what, f.At(), x.at)
		same(t, x.what+": writes", p.Counts().Writes, 2+x.writes)
		same(t, x.what+": page 0", bytes.Equal(p.Safe()[:512], x.first), true)
		same(t, x.what+": page 1", bytes.Equal(p.Safe()[512:1024], x.last), true)
	}
}

// P23.3: which of two copies of one commit counts is seen by the Engine that the follower has.
func TestNewFollowerOfOneCommitTwice(t *testing.T) {
	for txn := 4; txn <= 5; txn++ {
		for _, own := range engines() {
			p := plate.New(512, 40)
			lay(t, p, txn%2, metaPage(t, api.Meta{Engine: own, Page: 512, Txn: txn, High: 2}))
			lay(t, p, 1-txn%2, metaPage(t, api.Meta{Engine: 3 - own, Page: 512, Txn: txn, High: 3}))
			f := follow(t, p)
			same(t, "the other engine's", f.Apply(handmade(t, 3-own, 512, txn, txn, 3)), api.ErrGap)
			same(t, "the own one's", f.Apply(handmade(t, own, 512, txn, txn, 2)), api.OK)
		}
	}
}

// P23.3: what is loose counts as it is read; where nothing need be written nothing is synced either.
func TestNewFollowerOfLoosePages(t *testing.T) {
	p := plate.New(512, 40)
	lay(t, p, 1, metaPage(t, api.Meta{Engine: 1, Page: 512, Txn: 3, High: 2}))
	must(t, "Write", p.Write(0, metaPage(t, api.Meta{Engine: 1, Page: 512, Txn: 4, High: 2})))
	same(t, "At", follow(t, p).At(), 4)
	same(t, "loose", p.Loose(), 1)
	must(t, "Write", p.Write(0, metaPage(t, api.Meta{Engine: 1, Page: 512, Txn: 5, High: 2})))
	same(t, "At", follow(t, p).At(), 5)
	same(t, "loose", p.Loose(), 0)
	same(t, "safe", bytes.Equal(p.Safe()[:512], p.Safe()[512:1024]), true)
}

// P23.3: ErrArg, ErrDown, and a power that fails while the commit is written to its own page: what it has is not lost.
func TestNewFollowerAndThePower(t *testing.T) {
	f, e := ship.NewFollower(nil)
	same(t, "of nil", fmt.Sprint(f == nil, e), fmt.Sprint(true, api.ErrArg))
	for _, engine := range engines() {
		_, l := drawn(t, engine, 512, 1200, 4, 3)
		for _, a := range l {
			good := plate.New(512, 1200)
			must(t, "Apply", follow(t, good).Apply(take(t, nil, a)))
			// The commit stands in the wrong page alone, as an Apply leaves it whose power has failed.
			image := good.Image()
			own := a.txn() % 2
			clear(image[own*512 : (own+1)*512])
			copy(image[(1-own)*512:], a.meta)
			for acts := range 3 {
				for _, fall := range []api.Fall{{Torn: -1}, {Keep: []int{0}, Torn: -1}, {Torn: 0, At: 0}, {Torn: 0, At: 40}, {Torn: 0, At: 511}, {Torn: 0, At: 512}} {
					what := fmt.Sprint("commit ", a.txn(), ", ", acts, " acts")
					p := loaded(t, image, 512)
					p.Arm(acts, fall)
					f, e := ship.NewFollower(p)
					if acts == 2 {
						must(t, what, e)
						same(t, what+": is up", p.Up(), true)
						p.Arm(-1, fall)
						has(t, what, f, p, a)
						continue
					}
					same(t, what, fmt.Sprint(f == nil, e), fmt.Sprint(true, api.ErrDown))
					f, e = ship.NewFollower(p)
					same(t, what+": down", fmt.Sprint(f == nil, e), fmt.Sprint(true, api.ErrDown))
					p.Start()
					has(t, what+", started", follow(t, p), p, a)
				}
			}
		}
		// No act comes, where nothing need be written.
		p := plate.New(512, 40)
		p.Arm(0, api.Fall{Torn: -1})
		f := follow(t, p)
		same(t, "armed still", f.Apply(handmade(t, engine, 512, 0, 1, 2)), api.ErrDown)
	}
}

// P23.4, P23.5: once a call has found the device down the follower is down for ever; a fall that none of its calls has met is none of its business, and At looks at no device.
func TestDownForEver(t *testing.T) {
	for _, engine := range engines() {
		_, v := table(t, engine)
		at1 := func() (*ship.Follower, *plate.Plate) {
			p := plate.New(512, 400)
			f := follow(t, p)
			must(t, "Apply", f.Apply(take(t, nil, v[1])))
			return f, p
		}
		for what, call := range map[string]func(f *ship.Follower) api.Errno{
			"Apply":            func(f *ship.Follower) api.Errno { return f.Apply(take(t, v[1], v[2])) },
			"Apply of nothing": func(f *ship.Follower) api.Errno { return f.Apply(api.Delta{}) },
			"Apply of a still": func(f *ship.Follower) api.Errno { return f.Apply(take(t, v[1], v[1])) },
			"Store":            func(f *ship.Follower) api.Errno { _, e := f.Store(); return e },
		} {
			f, p := at1()
			p.Crash(api.Fall{Torn: -1})
			same(t, what, call(f), api.ErrDown)
			isDown(t, what, f, 1, take(t, v[1], v[2]))
			p.Start()
			isDown(t, what+", started", f, 1, take(t, v[1], v[2]), take(t, nil, v[3]), take(t, v[1], v[1]))
			has(t, what+", a new one", follow(t, p), p, v[1])
		}
		f, p := at1()
		p.Crash(api.Fall{Torn: -1})
		same(t, "At", f.At(), 1)
		p.Start()
		has(t, "a fall that was not met", f, p, v[1])
		must(t, "Apply", f.Apply(take(t, v[1], v[3])))
		has(t, "and on", f, p, v[3])

		q := plate.New(512, 400)
		g := follow(t, q)
		q.Crash(api.Fall{Torn: -1})
		isDown(t, "one that has nothing", g, 0)
		q.Start()
		isDown(t, "one that has nothing, started", g, 0)
		hasNothing(t, "a new one", follow(t, q))
	}
}

// P23.5: a store of its own: what is done to it does not reach the follower, nor the other way; each call answers another one.
func TestStoreOfItsOwn(t *testing.T) {
	for _, engine := range engines() {
		_, v := table(t, engine)
		p := plate.New(512, 400)
		f := follow(t, p)
		must(t, "Apply", f.Apply(take(t, nil, v[1])))
		image, counts := p.Image(), p.Counts()
		s, e := f.Store()
		must(t, "Store", e, s.Begin(), s.Make("new"))
		_, e = s.Put("a", []byte("k0001"), []byte(long(3000, 1)))
		must(t, "Put", e)
		n, e := s.Commit()
		must(t, "Commit", e)
		same(t, "its commit", n, 2)
		other, e := f.Store()
		must(t, "Store", e)
		same(t, "another one", other == s, false)
		sameList(t, "another one", stateOf(t, other).lines(), v[1].has.lines())
		same(t, "the device", bytes.Equal(p.Image(), image), true)
		same(t, "its writes", p.Counts().Writes, counts.Writes)
		same(t, "its syncs", p.Counts().Syncs, counts.Syncs)
		has(t, "the follower", f, p, v[1])

		mine := stateOf(t, s).lines()
		must(t, "Apply", f.Apply(take(t, v[1], v[2])))
		has(t, "the follower goes on", f, p, v[2])
		p.Crash(api.Fall{Torn: -1})
		isDown(t, "down", f, 2)
		sameList(t, "the stores stay", stateOf(t, s).lines(), mine)
		sameList(t, "the stores stay", stateOf(t, other).lines(), v[1].has.lines())
		must(t, "Close", s.Close(), other.Close())
	}
}

// P23.5: the store has as many pages as the device: what is done to it ends where the device ends.
func TestStoreHasAsManyPages(t *testing.T) {
	for _, engine := range engines() {
		_, v := table(t, engine)
		high := v[1].v.Meta().High
		for more := range 20 {
			p := plate.New(512, high+more)
			f := follow(t, p)
			must(t, "Apply", f.Apply(take(t, nil, v[1])))
			s, e := f.Store()
			must(t, "Store", e, s.Begin())
			twin, e := store.Open(loaded(t, p.Image(), 512), engine)
			must(t, "Open", e, twin.Begin())
			same(t, "Make", s.Make("new"), twin.Make("new"))
			for i := range 8 {
				key, value := []byte{byte(i)}, []byte(long(900, byte(i)))
				_, got := s.Put("new", key, value)
				_, want := twin.Put("new", key, value)
				same(t, "Put", got, want)
			}
		}
	}
}

// P23.5: errors of store.Open are handed on: the commit that it has is not the one that its meta pages lead to, or they lead to another engine's, or beyond the device.
func TestErrorsOfStore(t *testing.T) {
	seen := map[api.Errno]int{}
	for first, a := range metaPages(t) {
		for second, b := range metaPages(t) {
			p := plate.New(512, 40)
			lay(t, p, 0, a)
			lay(t, p, 1, b)
			f := follow(t, p)
			m, _, is := taken(p)
			storeIs(t, first+"; "+second, f, p, m, is)
			_, e := f.Store()
			seen[e]++
		}
	}
	same(t, fmt.Sprint(seen), len(seen) >= 3 && seen[api.OK] > 0 && seen[api.ErrNoMeta] > 0, true)
}

// P23.5: a free list that is no list stops Open, trees that are none do not.
func TestStoreOfBrokenPages(t *testing.T) {
	for _, engine := range engines() {
		r := newRig(t, engine, 512, 900)
		r.make("a", "b").fill("a", 200, 90).commit()
		a := r.drop("a").commit()
		d := take(t, nil, a)
		for i, page := range d.Pages {
			c := copied(d)
			c.Pages[i].Data[77] ^= 1
			p := plate.New(512, 900)
			f := follow(t, p)
			must(t, "Apply", f.Apply(c))
			same(t, "At", f.At(), 2)
			storeIs(t, fmt.Sprint("page ", page.Page), f, p, a.v.Meta(), true)
			s, e := f.Store()
			same(t, fmt.Sprint("a list's page: ", page.Data[0] == api.PageFree), fmt.Sprint(e != api.OK, s == nil), fmt.Sprint(page.Data[0] == api.PageFree, page.Data[0] == api.PageFree))
		}
	}
}
