package store_test

import (
	"fmt"
	"strings"
	"testing"

	"espalier/api"
	"espalier/store"
)

// eras are the transactions of a script, each one's changes.
func eras() [][]step {
	put := func(name, key string, n int) step {
		return step{what: "put", name: name, key: key, value: long(n, byte(n))}
	}
	return [][]step{
		{{what: "make", name: "a"}, put("a", "k", 1), put("a", "l", 700)},
		{put("a", "k", 2)},
		{},
		{{what: "make", name: "b"}, {what: "load", name: "b", pairs: numbered(9, 90)}, put("a", "l", 1100)},
		{{what: "delete", name: "a", key: "l"}, {what: "load", name: "b", pairs: numbered(3, 300)}},
		{{what: "drop", name: "b"}, {what: "make", name: "c"}, put("c", "m", 96), put("c", "m", 97)},
		{{what: "drop", name: "a"}, {what: "drop", name: "c"}},
		{{what: "make", name: "a"}, put("a", "k", 5)},
	}
}

// falls are choices of what stays of so many loose writes: none, all, each alone, all but one, those ahead of one, each torn at many places with none, with those ahead of it, with all others, or with all (torn it is then, too), and numbers that no write has.
func falls(loose int) []api.Fall {
	var all []int
	for k := range loose {
		all = append(all, k)
	}
	l := []api.Fall{{Torn: -1}, {Keep: all, Torn: -1}, {Keep: []int{-1, loose, 99, 0, 0}, Torn: loose + 5, At: 3}}
	for k := range loose {
		others := append(append([]int{}, all[:k]...), all[k+1:]...)
		l = append(l, api.Fall{Keep: []int{k}, Torn: -1}, api.Fall{Keep: others, Torn: -1}, api.Fall{Keep: all[:k], Torn: -1})
		for i, at := range []int{-7, 0, 1, 12, 19, 20, 36, 40, 100, 508, 509, 511, 512, 9999} {
			l = append(l, api.Fall{Keep: [][]int{nil, all[:k], others, all}[(i+k)%4], Torn: k, At: at})
		}
	}
	return l
}

// inCommit readies a store on a device with that image, whose transaction has done these changes.
func (r *rig) inCommit(image []byte, changes []step) *rig {
	r.t.Helper()
	c := &rig{t: r.t, what: r.what, engine: r.engine, most: r.most, txn: r.txn, committed: r.committed}
	c.p = loaded(r.t, image, r.p.Page())
	c.s = opened(r.t, c.p, r.engine)
	c.begin()
	for _, s := range changes {
		c.does(s)
	}
	return c
}

// recovered starts the device, and holds what is found there against the state ahead of a commit, and behind it: which number it has.
func (r *rig) recovered(before, after state) int {
	r.t.Helper()
	r.p.Start()
	_, m, fault := surveyed(r.p.Image(), r.p.Page(), r.engine)
	if fault != "" {
		r.t.Fatalf("%s: %s", r.what, fault)
	}
	switch m.Txn {
	case r.txn:
		r.committed = before
	case r.txn + 1:
		r.committed, r.txn = after, r.txn+1
	default:
		r.t.Fatalf("%s: found is commit %d, the last one was %d", r.what, m.Txn, r.txn)
	}
	r.s, r.working = opened(r.t, r.p, r.engine), nil
	r.is("Txn", r.s.Txn(), m.Txn)
	r.looks()
	r.whole()
	return m.Txn
}

// P17.10: the power fails at every act of each Commit, with many kinds of loss: the device opens as the last commit that was answered, or as the one under way, and goes on from there.
func TestPowerFailsInCommits(t *testing.T) {
	t.Parallel()
	for _, engine := range engines() {
		r := newRig(t, engine, 512, 80)
		for era, changes := range eras() {
			image, before := r.p.Image(), r.committed
			done := r.inCommit(image, changes)
			counts := done.p.Counts()
			done.commit()
			acts := done.p.Counts().Writes + done.p.Counts().Syncs - counts.Writes - counts.Syncs
			found := map[int]int{}
			for k := range acts {
				loose := min(k+1, acts-3) // ahead of the first Sync; then the meta page alone
				if k >= acts-2 {
					loose = 1
				}
				for _, f := range falls(loose) {
					c := r.inCommit(image, changes)
					c.what += fmt.Sprintf(", era %d, behind %d of %d acts, %+v", era, k, acts, f)
					c.p.Arm(k, f)
					n, e := c.s.Commit()
					c.is("Commit", e, api.ErrDown)
					c.is("Commit", n, 0)
					is := c.recovered(before, done.committed)
					found[is]++
					if k < acts-2 {
						c.is("found ahead of the meta page", is, r.txn)
					}
					// It goes on, on a device on which all that is free can be taken.
					c.does(step{what: "begin"})
					c.does(step{what: "make", name: "on"})
					c.does(step{what: "put", name: "on", key: "k", value: long(900, 'o')})
					c.settle()
				}
			}
			same(t, fmt.Sprint("era ", era, ": both are found"), found[r.txn] > 0 && found[r.txn+1] > 0, true)
			r.begin()
			for _, s := range changes {
				r.does(s)
			}
			r.commit()
			r.whole()
		}
	}
}

// P17.10: the power fails at any act of a whole script, the store being the same one from its beginning on.
func TestPowerFailsInAScript(t *testing.T) {
	t.Parallel()
	for _, engine := range engines() {
		steps := closedScript(chance(23), 260)
		r := newRig(t, engine, 512, 3000)
		counts := r.p.Counts()
		r.plays(steps)
		acts := r.p.Counts().Writes + r.p.Counts().Syncs - counts.Writes - counts.Syncs
		x := chance(int64(engine))
		for k := 0; k < acts; k += 1 + acts/150 {
			for kind := range 3 {
				f := api.Fall{Torn: -1}
				if kind > 0 {
					f.Torn, f.At = x.Intn(20)-1, x.Intn(513)
				}
				for n := range 400 {
					if kind == 1 || kind == 2 && x.Intn(2) == 0 {
						f.Keep = append(f.Keep, n)
					}
				}
				r := newRig(t, engine, 512, 3000)
				r.what += fmt.Sprintf(", behind %d acts, kind %d", k, kind)
				r.p.Arm(k, f)
				r.playsUntilDown(steps)
				r.recovered(r.committed, r.working)
			}
		}
	}
}

// playsUntilDown does steps up to the Commit in which the power fails.
func (r *rig) playsUntilDown(steps []step) {
	r.t.Helper()
	for _, s := range steps {
		if s.what != "commit" || r.working == nil {
			r.does(s)
			continue
		}
		n, e := r.s.Commit()
		if e != api.OK {
			r.is("Commit", e, api.ErrDown)
			return
		}
		r.is("Commit", n, r.txn+1)
		r.txn, r.committed, r.working = n, r.working, nil
	}
	r.t.Fatalf("%s: the power has not failed", r.what)
}

// P17.10: crashes outside of any Commit lose nothing that was committed, and all that was not.
func TestPowerFailsBetweenCommits(t *testing.T) {
	t.Parallel()
	for _, engine := range engines() {
		r := newRig(t, engine, 512, 80)
		for era, changes := range eras() {
			for _, f := range []api.Fall{{}, {Keep: []int{0, 1, 2}, Torn: 0, At: 9}} {
				r.begin()
				for _, s := range changes {
					r.does(s)
				}
				r.p.Crash(f)
				_, e := r.s.Commit()
				r.is("Commit", e, api.ErrDown)
				r.recovered(r.committed, nil)
			}
			r.begin()
			for _, s := range changes {
				r.does(s)
			}
			r.commit()
			r.p.Crash(api.Fall{Keep: []int{era}})
			r.is("what is found", r.recovered(r.committed, nil), era+1)
		}
	}
}

// P17.10, P0.4: views are open while the power fails, and what they have kept from being taken does no harm.
func TestPowerFailsWithViews(t *testing.T) {
	t.Parallel()
	for _, engine := range engines() {
		for acts := range 60 {
			r := newRig(t, engine, 512, 300)
			r.p.Arm(acts, api.Fall{Keep: []int{0, 2, 4}, Torn: 1, At: 300})
			var views []*store.View
			var e api.Errno
			for _, changes := range eras() {
				r.begin()
				for _, s := range changes {
					r.does(s)
				}
				v, _ := r.s.View()
				views = append(views, v)
				if _, e = r.s.Commit(); e != api.OK {
					break
				}
				r.txn, r.committed, r.working = r.txn+1, r.working, nil
			}
			if e == api.OK {
				break
			}
			for _, v := range views {
				_, e := v.Names()
				same(t, "a view", e, api.ErrDown)
			}
			r.recovered(r.committed, r.working)
			for _, v := range views {
				_, e := v.Names()
				same(t, "a view, when the device is up again", e, api.ErrDown)
			}
		}
	}
}

// The falls above reach what they are meant to reach.
func TestFalls(t *testing.T) {
	l := falls(3)
	same(t, "falls of three writes", len(l), 3+3*17)
	text := fmt.Sprint(l)
	for _, want := range []string{"{[] -1 0}", "{[0 1 2] -1 0}", "{[1] -1 0}", "{[0 2] -1 0}", "{[] 0 -7}", "{[0 2] 1 0}", "{[0 1 2] 0 12}"} {
		same(t, want, strings.Contains(text, want), true)
	}
}
