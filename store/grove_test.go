package store_test

import (
	"slices"
	"testing"

	"espalier/api"
	"espalier/grove"
)

// P17.6: Grove is the transaction's: what is done to it is done to the working state, and the other way round, and is committed with it, or given up.
func TestGrove(t *testing.T) {
	for _, engine := range engines() {
		r := newRig(t, engine, 512, 400)
		for round := range 4 {
			g, e := r.s.Grove()
			same(t, "without a transaction", g == nil && e == api.ErrNoTxn, true)
			r.begin()
			r.make("by the store")
			g = groveOf(t, r)
			r.byGrove(g, round)
			r.looks()
			r.make("by-the-store")
			r.put("by-the-grove", "k", long(600, byte(round)))
			b, is, e := g.Get("by-the-grove", []byte("k"))
			same(t, "the grove tells what was put", e == api.OK && is && string(b) == long(600, byte(round)), true)
			r.byGrove(groveOf(t, r), round+10)
			names, e := g.Names()
			same(t, "the first tells what was done by way of the second", e, api.OK)
			sameList(t, "its names", names, r.working.names())
			r.looks()
			if round%2 == 0 {
				r.rollback()
			} else {
				r.commit()
				r.whole()
			}
			r.looks()
			same(t, "a grove of a transaction that is over", g.Make("late"), api.ErrOver)
			_, e = g.Put("by-the-grove", []byte("k"), nil)
			same(t, "a grove of a transaction that is over", e, api.ErrOver)
			r.looks()
		}
	}
}

func groveOf(t *testing.T, r *rig) *grove.Grove {
	t.Helper()
	g, e := r.s.Grove()
	if g == nil || e != api.OK {
		t.Fatalf("Grove: %d", e)
	}
	return g
}

// byGrove changes the working state by way of its grove.
func (r *rig) byGrove(g *grove.Grove, round int) {
	r.t.Helper()
	if !r.working.has("by-the-grove") {
		must(r.t, "g.Make", g.Make("by-the-grove"))
		r.working["by-the-grove"] = map[string]string{}
	}
	value := long(300*round, 'g')
	_, e := g.Put("by-the-grove", []byte("g"), []byte(value))
	must(r.t, "g.Put", e)
	r.working["by-the-grove"]["g"] = value
	l := numbered(20, 9*round)
	n, e := g.Load("by-the-grove", slices.Values(raw(l...)))
	same(r.t, "g.Load", e == api.OK && n == len(l), true)
	r.working["by-the-grove"] = map[string]string{}
	for _, p := range l {
		r.working["by-the-grove"][p.key] = p.value
	}
	is, e := g.Delete("by-the-grove", []byte("k00003"))
	same(r.t, "g.Delete", is && e == api.OK, true)
	delete(r.working["by-the-grove"], "k00003")
}

// P17.6: the grove of a store that is closed, or whose device is down.
func TestGroveRefused(t *testing.T) {
	for _, engine := range engines() {
		r, _ := stood(t, engine, true)
		g := groveOf(t, r)
		r.p.Crash(api.Fall{})
		none, e := r.s.Grove()
		same(t, "down", none == nil && e == api.ErrDown, true)
		_, e = g.Names()
		same(t, "what was handed out", e, api.ErrDown)
		r.s.Close()
		none, e = r.s.Grove()
		same(t, "closed", none == nil && e == api.ErrClosed, true)
		r, _ = stood(t, engine, true)
		g = groveOf(t, r)
		r.s.Close()
		_, e = g.Names()
		same(t, "what was handed out of a closed one", e, api.ErrOver)
	}
}

// P17.6: what is done by way of the grove alone is committed by the store.
func TestCommitOfAGrove(t *testing.T) {
	for _, engine := range engines() {
		r := newRig(t, engine, 512, 200)
		r.begin()
		r.byGrove(groveOf(t, r), 3)
		r.commit()
		r.whole()
		r.looks()
		r.begin()
		g := groveOf(t, r)
		must(t, "g.Drop", g.Drop("by-the-grove"))
		delete(r.working, "by-the-grove")
		r.commit()
		r.whole()
		same(t, "pages in use", r.used(), 0)
	}
}
