package store_test

import (
	"fmt"
	"maps"
	"slices"
	"testing"

	"espalier/api"
	"espalier/store"
)

// call is a call of a store, or of a view: whether all that it answers beside the error is zero, and the error.
type call func(s *store.Store, v *store.View) (bool, api.Errno)

// callsOfStore are all calls of a store that P17.2 holds for.
func callsOfStore() map[string]call {
	key := []byte("k")
	return map[string]call{
		"Begin": func(s *store.Store, v *store.View) (bool, api.Errno) { return true, s.Begin() },
		"Commit": func(s *store.Store, v *store.View) (bool, api.Errno) {
			n, e := s.Commit()
			return n == 0, e
		},
		"Rollback": func(s *store.Store, v *store.View) (bool, api.Errno) { return true, s.Rollback() },
		"Make":     func(s *store.Store, v *store.View) (bool, api.Errno) { return true, s.Make("new") },
		"Make of no name": func(s *store.Store, v *store.View) (bool, api.Errno) {
			return true, s.Make("")
		},
		"Drop": func(s *store.Store, v *store.View) (bool, api.Errno) { return true, s.Drop("a") },
		"Put": func(s *store.Store, v *store.View) (bool, api.Errno) {
			was, e := s.Put("a", key, key)
			return !was, e
		},
		"Put of no key": func(s *store.Store, v *store.View) (bool, api.Errno) {
			was, e := s.Put("none", nil, nil)
			return !was, e
		},
		"Delete": func(s *store.Store, v *store.View) (bool, api.Errno) {
			was, e := s.Delete("a", key)
			return !was, e
		},
		"Load": func(s *store.Store, v *store.View) (bool, api.Errno) {
			n, e := s.Load("a", raw(pair{"b", ""}, pair{"c", ""}))
			return n == 0, e
		},
		"Get": func(s *store.Store, v *store.View) (bool, api.Errno) {
			b, is, e := s.Get("a", key)
			return len(b) == 0 && !is, e
		},
		"Scan": func(s *store.Store, v *store.View) (bool, api.Errno) {
			l, e := s.Scan("a", nil, nil, 9, false)
			return len(l) == 0, e
		},
		"Scan of a wrong limit": func(s *store.Store, v *store.View) (bool, api.Errno) {
			l, e := s.Scan("none", nil, nil, -1, false)
			return len(l) == 0, e
		},
		"Len": func(s *store.Store, v *store.View) (bool, api.Errno) {
			n, e := s.Len("a")
			return n == 0, e
		},
		"Rank": func(s *store.Store, v *store.View) (bool, api.Errno) {
			n, e := s.Rank("a", []byte("z"))
			return n == 0, e
		},
		"At": func(s *store.Store, v *store.View) (bool, api.Errno) {
			p, is, e := s.At("a", 0)
			return len(p.Key)+len(p.Value) == 0 && !is, e
		},
		"Names": func(s *store.Store, v *store.View) (bool, api.Errno) {
			l, e := s.Names()
			return len(l) == 0, e
		},
		"Grove": func(s *store.Store, v *store.View) (bool, api.Errno) {
			g, e := s.Grove()
			return g == nil, e
		},
		"View": func(s *store.Store, v *store.View) (bool, api.Errno) {
			w, e := s.View()
			return w == nil, e
		},
	}
}

// callsOfView are all calls of a view that answer an error.
func callsOfView() map[string]call {
	return map[string]call{
		"v.Get": func(s *store.Store, v *store.View) (bool, api.Errno) {
			b, is, e := v.Get("a", []byte("k"))
			return len(b) == 0 && !is, e
		},
		"v.Get of no tree": func(s *store.Store, v *store.View) (bool, api.Errno) {
			b, is, e := v.Get("none", []byte("k"))
			return len(b) == 0 && !is, e
		},
		"v.Scan": func(s *store.Store, v *store.View) (bool, api.Errno) {
			l, e := v.Scan("a", nil, nil, 9, true)
			return len(l) == 0, e
		},
		"v.Scan of a wrong limit": func(s *store.Store, v *store.View) (bool, api.Errno) {
			l, e := v.Scan("none", nil, nil, api.MaxLimit+1, true)
			return len(l) == 0, e
		},
		"v.Names": func(s *store.Store, v *store.View) (bool, api.Errno) {
			l, e := v.Names()
			return len(l) == 0, e
		},
	}
}

func sortedCalls(m map[string]call) []string { return slices.Sorted(maps.Keys(m)) }

func allCalls() map[string]call {
	m := callsOfStore()
	maps.Copy(m, callsOfView())
	return m
}

// refusesAll holds each of these calls against an error, and zeros beside it.
func refusesAll(t *testing.T, what string, calls map[string]call, s *store.Store, v *store.View, want api.Errno) {
	t.Helper()
	for _, name := range sortedCalls(calls) {
		zero, e := calls[name](s, v)
		same(t, what+": "+name, e, want)
		same(t, what+": "+name+": zero", zero, true)
	}
}

// stood is a store with a tree and a commit, a view of it, and perhaps a transaction with changes.
func stood(t *testing.T, engine int, isBusy bool) (*rig, *store.View) {
	t.Helper()
	r := newRig(t, engine, 512, 100)
	r.begin()
	r.make("a")
	r.put("a", "k", "1")
	r.put("a", "l", long(700, 'l'))
	r.commit()
	v, e := r.s.View()
	must(t, "View", e)
	if isBusy {
		r.begin()
		r.put("a", "k", "2")
		r.make("b")
	}
	return r, v
}

// P17.2: of a closed store each call answers ErrClosed, and of its views ErrView; Close gives an open transaction up.
func TestClosed(t *testing.T) {
	for _, engine := range engines() {
		for _, isBusy := range []bool{false, true} {
			r, v := stood(t, engine, isBusy)
			image := r.p.Image()
			same(t, "Close", r.s.Close(), api.OK)
			for range 2 {
				refusesAll(t, "closed", callsOfStore(), r.s, v, api.ErrClosed)
				refusesAll(t, "closed", callsOfView(), r.s, v, api.ErrView)
				same(t, "Close again", r.s.Close(), api.ErrClosed)
			}
			same(t, "the device is as it was", string(r.p.Image()) == string(image), true)
			// ErrClosed comes ahead of ErrDown.
			r.p.Crash(api.Fall{})
			refusesAll(t, "closed and down", callsOfStore(), r.s, v, api.ErrClosed)
			refusesAll(t, "closed and down", callsOfView(), r.s, v, api.ErrView)
			same(t, "Close", r.s.Close(), api.ErrClosed)
			same(t, "Txn", r.s.Txn(), 1)
			r.p.Start()
			r.s, r.working = opened(t, r.p, engine), nil
			r.looks()
		}
	}
}

// P17.2: of a store whose device is down each call answers ErrDown, also when it is up again; Close, Txn and what views tell without an error go on.
func TestDown(t *testing.T) {
	for _, engine := range engines() {
		for _, isBusy := range []bool{false, true} {
			for _, starts := range []bool{false, true} {
				r, v := stood(t, engine, isBusy)
				meta := v.Meta()
				r.p.Crash(api.Fall{})
				refusesAll(t, "down", allCalls(), r.s, v, api.ErrDown)
				if starts {
					r.p.Start()
				}
				refusesAll(t, "found down", allCalls(), r.s, v, api.ErrDown)
				same(t, "Txn", r.s.Txn(), 1)
				same(t, "v.Txn", v.Txn(), 1)
				same(t, "v.Meta", v.Meta(), meta)
				same(t, "v.Kin", v.Kin(v), true)
				same(t, "v.Grove, v.Room", v.Grove() != nil && v.Room() != nil, true)
				v.Close()
				refusesAll(t, "down, its view closed", callsOfView(), r.s, v, api.ErrView)
				refusesAll(t, "down, its view closed", callsOfStore(), r.s, v, api.ErrDown)
				same(t, "Close", r.s.Close(), api.OK)
				refusesAll(t, "closed", callsOfStore(), r.s, v, api.ErrClosed)
				same(t, "Close", r.s.Close(), api.ErrClosed)
				r.p.Start()
				r.s, r.working = opened(t, r.p, engine), nil
				r.looks()
				r.whole()
			}
		}
	}
}

// P17.2: whichever call has found the device down, of the store or of a view: all calls answer ErrDown when it is up again.
func TestFoundDown(t *testing.T) {
	for _, engine := range engines() {
		for _, isBusy := range []bool{false, true} {
			calls := allCalls()
			for _, finder := range sortedCalls(calls) {
				r, v := stood(t, engine, isBusy)
				w, e := r.s.View()
				must(t, "View", e)
				r.p.Crash(api.Fall{})
				zero, e := calls[finder](r.s, w)
				same(t, finder+" finds it down", zero && e == api.ErrDown, true)
				r.p.Start()
				refusesAll(t, "found down by "+finder, calls, r.s, v, api.ErrDown)
				same(t, "Txn", r.s.Txn(), 1)
				same(t, "v.Meta", v.Meta().Txn, 1)
				same(t, "v.Kin", v.Kin(w), true)
				same(t, "Close", r.s.Close(), api.OK)
				refusesAll(t, "closed", callsOfView(), r.s, v, api.ErrView)
			}
		}
	}
}

// P17.2: a room or a grove that was handed out finds the device down, too.
func TestFoundDownByRoomsAndGroves(t *testing.T) {
	for _, engine := range engines() {
		finders := map[string]func(r *rig, v *store.View) api.Errno{
			"the view's room": func(r *rig, v *store.View) api.Errno {
				_, e := v.Room().Read(2)
				return e
			},
			"the view's grove": func(r *rig, v *store.View) api.Errno {
				_, e := v.Grove().Names()
				return e
			},
		}
		for what, find := range finders {
			r, v := stood(t, engine, false)
			r.p.Crash(api.Fall{})
			same(t, what, find(r, v), api.ErrDown)
			r.p.Start()
			refusesAll(t, "found down by "+what, allCalls(), r.s, v, api.ErrDown)
		}
	}
}

// P17.2: a device that was down, and that no call has found so, is as it was: nothing of an open transaction stood there. Txn, Meta, Kin, a view's Close, and calls of a view that is closed do not find it down.
func TestDownUnseen(t *testing.T) {
	for _, engine := range engines() {
		for _, isBusy := range []bool{false, true} {
			r, v := stood(t, engine, isBusy)
			closed, e := r.s.View()
			must(t, "View", e)
			closed.Close()
			other, e := r.s.View()
			must(t, "View", e)
			r.p.Crash(api.Fall{})
			same(t, "Txn", r.s.Txn(), 1)
			same(t, "v.Txn", v.Txn(), 1)
			same(t, "v.Meta", v.Meta().Txn, 1)
			same(t, "v.Kin", v.Kin(other) && !v.Kin(nil), true)
			same(t, "v.Grove, v.Room", v.Grove() != nil && v.Room() != nil, true)
			refusesAll(t, "closed", callsOfView(), r.s, closed, api.ErrView)
			other.Close()
			r.p.Start()
			r.looks()
			if isBusy {
				r.commit()
				r.looks()
			}
			r.whole()
			l, e := v.Scan("a", nil, nil, 9, false)
			same(t, "v.Scan", e, api.OK)
			sameList(t, "v.Scan", asPairs(l), []pair{{"k", "1"}, {"l", long(700, 'l')}})
		}
	}
}

// P17.2: Close while the device is down, with a transaction and views.
func TestCloseWhileDown(t *testing.T) {
	for _, engine := range engines() {
		for _, found := range []bool{false, true} {
			r, v := stood(t, engine, true)
			room, g := v.Room(), v.Grove()
			r.p.Crash(api.Fall{})
			if found {
				same(t, "Names", fmt.Sprint(r.s.Names()), fmt.Sprint([]string{}, api.ErrDown))
			}
			same(t, "Close", r.s.Close(), api.OK)
			same(t, "Close", r.s.Close(), api.ErrClosed)
			same(t, "v.Grove", v.Grove() == nil, true)
			same(t, "v.Room", v.Room() == nil, true)
			_, e := room.Read(2)
			same(t, "a room that was handed out", e, api.ErrOver)
			_, e = g.Names()
			same(t, "a grove that was handed out", e, api.ErrOver)
			r.p.Start()
			r.s, r.working = opened(t, r.p, engine), nil
			r.looks()
			r.begin()
			r.commit()
			r.whole()
		}
	}
}
