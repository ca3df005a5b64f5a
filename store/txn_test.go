package store_test

import (
	"bytes"
	"fmt"
	"testing"

	"espalier/api"
	"espalier/store"
)

// P17.3: one transaction at a time; Commit and Rollback end it, and are refused without one.
func TestBegin(t *testing.T) {
	for _, engine := range engines() {
		r := newRig(t, engine, 512, 100)
		for round := range 4 {
			refusesAll(t, "without a transaction", inTxn(), r.s, nil, api.ErrNoTxn)
			r.begin()
			same(t, "Begin again", r.s.Begin(), api.ErrBusy)
			r.make(fmt.Sprint("t", round))
			same(t, "Begin again, behind a change", r.s.Begin(), api.ErrBusy)
			r.looks()
			if round%2 == 0 {
				r.commit()
			} else {
				r.rollback()
			}
			r.looks()
		}
		r.whole()
	}
}

// inTxn are the calls that need a transaction.
func inTxn() map[string]call {
	calls := callsOfStore()
	for _, name := range []string{"Begin", "Get", "Scan", "Scan of a wrong limit", "Len", "Rank", "At", "Names", "View"} {
		delete(calls, name)
	}
	return calls
}

// P17.3: nothing of a transaction is on the device ahead of its Commit, and nothing of it is left behind a Rollback, or a Close.
func TestNothingAheadOfCommit(t *testing.T) {
	for _, engine := range engines() {
		r := lived(t, engine, 512)
		image := r.p.Image()
		for round := range 6 {
			counts := r.p.Counts()
			r.begin()
			r.load("a", numbered(50+round, 200)...)
			r.drop("b/c")
			r.make("n")
			r.put("n", "x", long(9000, 'x'))
			r.looks()
			same(t, "acts ahead of Commit", r.p.Counts().Writes+r.p.Counts().Syncs, counts.Writes+counts.Syncs)
			if round%3 == 2 {
				r.is("Close", r.s.Close(), api.OK)
				r.s, r.working = opened(t, r.p, engine), nil
			} else {
				r.rollback()
			}
			r.looks()
			same(t, "the device", bytes.Equal(image, r.p.Image()), true)
		}
		r.begin()
		r.put("a", "last", "1")
		r.commit()
		r.looks()
		r.whole()
	}
}

// P17.3: a Commit of nothing is a commit, too; one behind a Rollback has the number that the other would have had.
func TestCommitOfNothing(t *testing.T) {
	for _, engine := range engines() {
		for _, pages := range []int{4, 60} {
			r := newRig(t, engine, 512, pages)
			for range 5 {
				r.begin()
				r.commit()
				r.whole()
			}
			r.begin()
			r.rollback()
			r.begin()
			r.commit()
			same(t, "Txn", r.s.Txn(), 6)
			if pages == 4 {
				continue
			}
			r.begin()
			r.make("a")
			r.put("a", "k", long(300, 'k'))
			r.commit()
			for range 5 {
				r.begin()
				r.commit()
				r.whole()
				r.looks()
			}
			r.s = opened(t, r.p, engine)
			same(t, "Txn on the device", r.s.Txn(), 12)
			r.looks()
		}
	}
}

// P17.3: behind the commit of the greatest number no transaction can be begun; all else goes on, also where as many views as may be look at the commit ahead of it.
func TestLastCommit(t *testing.T) {
	for _, engine := range engines() {
		r := lived(t, engine, 512)
		r.p = relaid(t, r.p, func(m *api.Meta) { m.Txn = api.MaxTxn - 1 })
		r.s, r.txn = opened(t, r.p, engine), api.MaxTxn-1
		r.looks()
		var views []*store.View
		for range api.MaxViews {
			v, e := r.s.View()
			must(t, "View", e)
			views = append(views, v)
		}
		before := r.committed.copied()
		r.begin()
		same(t, "Begin within it", r.s.Begin(), api.ErrBusy)
		r.put("a", "last", "of all")
		r.drop("empty")
		r.commit()
		same(t, "its number", r.s.Txn(), api.MaxTxn)
		r.whole()
		for range 2 {
			same(t, "Begin behind it", r.s.Begin(), api.ErrLast)
			refusesAll(t, "behind it", inTxn(), r.s, nil, api.ErrNoTxn)
			r.looks()
			for i, v := range views {
				same(t, "a view ahead of it", v.Txn(), api.MaxTxn-1)
				if i%20 == 0 {
					viewed(t, "a view ahead of it", v, before)
				}
			}
			_, e := r.s.View()
			same(t, "one view more", e, api.ErrViews)
		}
		views[7].Close()
		v, e := r.s.View()
		must(t, "View", e)
		viewed(t, "a view of the last one", v, r.committed)
		same(t, "its number", v.Txn(), api.MaxTxn)
		r.s = opened(t, r.p, engine)
		same(t, "Begin of another store", r.s.Begin(), api.ErrLast)
		r.looks()
	}
}

// P17.3: a Commit that is refused for want of pages changes nothing: the transaction is open still, with its working state, and may be committed when there is room, or be given up.
func TestCommitRefused(t *testing.T) {
	for _, engine := range engines() {
		for _, way := range []string{"rollback", "close", "down"} {
			r := tightDrop(t, engine)
			image := r.p.Image()
			for range 3 {
				n, e := r.s.Commit()
				same(t, "Commit", e, api.ErrFull)
				same(t, "Commit", n, 0)
				same(t, "the device", bytes.Equal(image, r.p.Image()), true)
				same(t, "Txn", r.s.Txn(), r.txn)
				same(t, "Begin", r.s.Begin(), api.ErrBusy)
				r.looks()
				g, e := r.s.Grove()
				same(t, "Grove", g != nil && e == api.OK, true)
				// What asks for pages is refused, too; what asks for none is not.
				r.tight = true
				r.put("keep", "m", "1")
				r.make("other")
				r.delete("keep", "k")
				r.delete("keep", "not there")
				r.drop("not there")
				r.looks()
			}
			switch way {
			case "rollback":
				r.rollback()
			case "close":
				r.is("Close", r.s.Close(), api.OK)
				r.s, r.working = opened(t, r.p, engine), nil
			case "down":
				r.p.Arm(0, api.Fall{Torn: -1})
				_, e := r.s.Commit()
				same(t, "a refused Commit does no act", e, api.ErrFull)
				r.p.Crash(api.Fall{})
				_, e = r.s.Commit()
				same(t, "Commit", e, api.ErrDown)
				r.p.Start()
				r.s, r.working = opened(t, r.p, engine), nil
			}
			r.looks()
			r.whole()
		}
	}
}

// tightDrop is a store on a device that is nearly full, whose open transaction has dropped a tree of many pages: they wait, and there is no room to list them.
func tightDrop(t *testing.T, engine int) *rig {
	t.Helper()
	r := newRig(t, engine, 512, 4000)
	r.begin()
	r.make("keep")
	r.put("keep", "k", long(200, 'k'))
	r.make("big")
	for i := range 28 {
		r.put("big", fmt.Sprint("k", i), long(65536, byte(i)))
	}
	r.commit()
	r.begin()
	r.tight = true
	for r.refusals == 0 {
		r.put("keep", fmt.Sprint("fill ", len(r.working["keep"])), long(496, 'f'))
	}
	r.drop("big")
	r.is("Puts refused, and no Drop", r.refusals, 1)
	return r
}

// P17.3: a Commit of nothing may be refused, too, where views keep what earlier commits had; when they are closed, a later one finds room.
func TestCommitOfNothingRefused(t *testing.T) {
	for _, engine := range engines() {
		r := newRig(t, engine, 512, 40)
		r.begin()
		r.make("a")
		r.commit()
		r.begin()
		r.put("a", "k", "1")
		r.commit()
		v, e := r.s.View()
		must(t, "View", e)
		was := r.committed.copied()
		r.tight = true
		for r.refusals == 0 {
			r.begin()
			r.commit()
		}
		r.looks()
		viewed(t, "what keeps them", v, was)
		r.rollback()
		r.looks()
		v.Close()
		r.tight = false
		r.begin()
		r.put("a", "k", "2")
		r.commit()
		r.looks()
		r.whole()
	}
}

// P17.3: the power falls in a Commit: ErrDown, and so are all calls behind it; the store that is opened then has one of the two states.
func TestCommitInWhichThePowerFalls(t *testing.T) {
	for _, engine := range engines() {
		for acts := 0; ; acts++ {
			r, v := stood(t, engine, true)
			g, e := r.s.Grove()
			must(t, "Grove", e)
			r.p.Arm(acts, api.Fall{Torn: -1})
			n, e := r.s.Commit()
			if e == api.OK {
				same(t, "acts of a Commit", acts > 3, true)
				break
			}
			same(t, "Commit", e, api.ErrDown)
			same(t, "Commit", n, 0)
			same(t, "Txn", r.s.Txn(), 1)
			r.p.Start()
			refusesAll(t, "behind it", allCalls(), r.s, v, api.ErrDown)
			e = g.Make("c")
			same(t, "its grove is of no use", e != api.OK, true)
			same(t, "Close", r.s.Close(), api.OK)
			r.s, r.working = opened(t, r.p, engine), nil
			r.looks() // nothing loose has stayed
			r.whole()
			r.begin()
			r.put("a", "k", "3")
			r.commit()
			r.whole()
		}
	}
}
