package store_test

import (
	"fmt"
	"testing"

	"espalier/api"
	"espalier/grove"
	"espalier/plate"
	"espalier/store"
)

// viewed holds all that a view tells against the maps: by its own calls, its grove and its room.
func viewed(t *testing.T, what string, v *store.View, want state) {
	t.Helper()
	names, e := v.Names()
	same(t, what+": Names", e, api.OK)
	sameList(t, what+": Names", names, want.names())
	m := v.Meta()
	same(t, what+": the commit", v.Txn(), m.Txn)
	root, n := v.Grove().Root()
	same(t, what+": the grove's root", root == m.Root && n == m.Count, true)
	other := grove.Open(v.Room(), m.Root, m.Count)
	for name := range want {
		l := want.rising(name)
		for _, reverse := range []bool{false, true} {
			got, e := v.Scan(name, nil, nil, api.MaxLimit, reverse)
			same(t, what+": Scan", e, api.OK)
			sameList(t, what+": Scan of "+name, asPairs(got), within(l, "", "", len(l), reverse))
		}
		for i, p := range l {
			if i%5 > 0 {
				continue
			}
			b, is, e := v.Get(name, []byte(p.key))
			same(t, what+": Get", e == api.OK && is && string(b) == p.value, true)
			at, is, e := other.At(name, i)
			same(t, what+": At in its room", e == api.OK && is && asPair(at) == p, true)
		}
		n, e := v.Grove().Len(name)
		same(t, what+": Len in its grove", e == api.OK && n == len(l), true)
	}
	b, is, e := v.Get("none", []byte("k"))
	same(t, what+": Get of no tree", e == api.ErrNoTree && !is && len(b) == 0, true)
	if t.Failed() {
		t.Fatalf("%s: view of commit %d", what, v.Txn())
	}
}

// P17.7: as many views as may be, of many commits, tell what they told at first, while others are committed, opened and closed.
func TestViewsOfManyCommits(t *testing.T) {
	for _, engine := range engines() {
		r := newRig(t, engine, 512, 6000)
		type look struct {
			v    *store.View
			want state
			txn  int
		}
		var looks []look
		x := chance(7)
		r.begin()
		r.make("a")
		r.commit()
		for round := range 90 {
			if len(looks) < api.MaxViews {
				v, e := r.s.View()
				must(t, "View", e)
				looks = append(looks, look{v, r.committed.copied(), r.txn})
			} else {
				v, e := r.s.View()
				same(t, "one more", v == nil && e == api.ErrViews, true)
			}
			r.begin()
			for range 6 {
				key := fmt.Sprint("k", x.Intn(40))
				if x.Intn(3) == 0 {
					r.delete("a", key)
				} else {
					r.put("a", key, long(x.Intn(300), byte(round)))
				}
			}
			if round%20 == 19 {
				r.drop("a")
				r.make("a")
				r.make(fmt.Sprint("t", round))
			}
			if round%4 == 3 {
				r.rollback()
			} else {
				r.commit()
			}
			for i, l := range looks {
				same(t, "Txn", l.v.Txn(), l.txn)
				if (i+round)%8 == 0 {
					viewed(t, fmt.Sprint("round ", round), l.v, l.want)
				}
			}
			if round > 70 {
				at := x.Intn(len(looks))
				looks[at].v.Close()
				looks = append(looks[:at], looks[at+1:]...)
			}
			if round%15 == 0 {
				r.looks()
				r.whole()
			}
		}
		for _, l := range looks {
			viewed(t, "at last", l.v, l.want)
			l.v.Close()
			l.v.Close()
		}
		r.begin()
		r.commit()
		r.whole()
		r.looks()
	}
}

// P17.7: a view is of the committed state, also while a transaction is open, and goes on telling it.
func TestViewWithinATransaction(t *testing.T) {
	for _, engine := range engines() {
		r := lived(t, engine, 512)
		r.begin()
		r.put("a", "new", "1")
		r.drop("b/c")
		v, e := r.s.View()
		must(t, "View", e)
		same(t, "Txn", v.Txn(), r.txn)
		was := r.committed.copied()
		viewed(t, "while it is open", v, was)
		r.looks()
		r.commit()
		viewed(t, "behind the Commit", v, was)
		w, e := r.s.View()
		must(t, "View", e)
		r.begin()
		r.load("a", numbered(30, 200)...)
		r.rollback()
		viewed(t, "behind a Rollback", w, r.committed)
		same(t, "Txn", w.Txn(), v.Txn()+1)
		viewed(t, "the first", v, was)
	}
}

// P17.7: MaxViews views may be open; one that is closed makes room for another, and closing it twice makes no more.
func TestMostViews(t *testing.T) {
	for _, engine := range engines() {
		r, first := stood(t, engine, false)
		views := []*store.View{first}
		for len(views) < api.MaxViews {
			v, e := r.s.View()
			must(t, "View", e)
			views = append(views, v)
		}
		full := func() {
			t.Helper()
			v, e := r.s.View()
			same(t, "one more", v == nil && e == api.ErrViews, true)
		}
		full()
		// All else goes on: questions of the committed state, too.
		r.looks()
		r.begin()
		full()
		r.put("a", "m", "1")
		r.commit()
		r.looks()
		full()
		for _, i := range []int{0, 63, 30} {
			for range 3 {
				views[i].Close()
			}
			v, e := r.s.View()
			must(t, "View in the place of one that is closed", e)
			views[i] = v
			full()
		}
		// ErrDown and ErrClosed come ahead of ErrViews.
		r.p.Crash(api.Fall{})
		_, e := r.s.View()
		same(t, "down", e, api.ErrDown)
		r.s.Close()
		_, e = r.s.View()
		same(t, "closed", e, api.ErrClosed)
		for _, v := range views {
			_, e = v.Names()
			same(t, "a view of a closed store", e, api.ErrView)
		}
	}
}

// P17.7: a view's Scan is as a store's: which errors come first, limits, ways.
func TestScanOfAView(t *testing.T) {
	for _, engine := range engines() {
		r := newRig(t, engine, 512, 200)
		r.begin()
		r.make("a")
		for _, p := range numbered(30, 150) {
			r.put("a", p.key, p.value)
		}
		r.commit()
		v, e := r.s.View()
		must(t, "View", e)
		r.begin()
		r.drop("a")
		r.commit()
		scans(t, "a view", numbered(30, 150), v.Scan)
		b, is, e := v.Get("a", nil)
		same(t, "Get of no key", e == api.OK && !is && len(b) == 0, true)
		b, is, e = v.Get("a", make([]byte, 70000))
		same(t, "Get of a long key", e == api.OK && !is && len(b) == 0, true)
	}
}

// P17.7: of a closed view, or of a closed store, all calls answer ErrView, Grove and Room nil; Txn, Meta and Kin go on.
func TestClosedViews(t *testing.T) {
	for _, engine := range engines() {
		for _, byStore := range []bool{false, true} {
			r, v := stood(t, engine, true)
			w, e := r.s.View()
			must(t, "View", e)
			room, g, m := v.Room(), v.Grove(), v.Meta()
			same(t, "its room", room.Engine() == engine && room.Size() == 512, true)
			_, e = room.Alloc()
			same(t, "its room makes nothing", e == api.ErrState && !room.Spare(0), true)
			same(t, "its grove makes nothing", g.Make("x") != api.OK, true)
			if byStore {
				same(t, "Close", r.s.Close(), api.OK)
			} else {
				v.Close()
			}
			refusesAll(t, "closed", callsOfView(), r.s, v, api.ErrView)
			same(t, "Grove", v.Grove() == nil, true)
			same(t, "Room", v.Room() == nil, true)
			same(t, "Meta", v.Meta(), m)
			same(t, "Txn", v.Txn(), 1)
			same(t, "Kin", v.Kin(w) && w.Kin(v) && v.Kin(v) && !v.Kin(nil), true)
			_, e = room.Read(2)
			same(t, "a room that was handed out", e, api.ErrOver)
			_, e = g.Names()
			same(t, "a grove that was handed out", e, api.ErrOver)
			v.Close()
			refusesAll(t, "closed again", callsOfView(), r.s, v, api.ErrView)
			if byStore {
				refusesAll(t, "the other", callsOfView(), r.s, w, api.ErrView)
				same(t, "the other's Grove, Room", w.Grove() == nil && w.Room() == nil, true)
				continue
			}
			viewed(t, "the other", w, r.committed)
			r.looks()
			r.commit()
			r.whole()
		}
	}
}

// P17.7: kin are the views of one Store, open or closed, of whichever commit; not those of two stores, though on one device.
func TestKin(t *testing.T) {
	for _, engine := range engines() {
		p := plate.New(512, 100)
		s, o := opened(t, p, engine), opened(t, p, engine)
		far := opened(t, plate.New(512, 100), engine)
		view := func(s *store.Store) *store.View {
			v, e := s.View()
			must(t, "View", e)
			return v
		}
		a := view(s)
		must(t, "Begin", s.Begin())
		must(t, "Make", s.Make("a"))
		_, e := s.Commit()
		must(t, "Commit", e)
		ours := []*store.View{a, view(s), view(s)}
		theirs := []*store.View{view(o), view(opened(t, p, engine)), view(far)}
		for closing := range 3 {
			for _, v := range ours {
				for _, w := range ours {
					same(t, "views of one store", v.Kin(w), true)
				}
				for _, w := range theirs {
					same(t, "views of two stores", v.Kin(w) || w.Kin(v), false)
				}
				same(t, "nil", v.Kin(nil), false)
			}
			switch closing {
			case 0:
				ours[0].Close()
				theirs[0].Close()
			case 1:
				s.Close()
				far.Close()
			}
		}
		same(t, "a view of the first commit", a.Txn(), 0)
		same(t, "a view of the second", ours[1].Txn(), 1)
	}
}
