package store

import (
	"slices"

	"espalier/api"
	"espalier/grove"
)

// Make, Drop, Put, Delete, Load: in the transaction.
func (s *Store) Make(name string) api.Errno {
	return s.change(func(g *grove.Grove) api.Errno { return g.Make(name) })
}

func (s *Store) Drop(name string) api.Errno {
	return s.change(func(g *grove.Grove) api.Errno { return g.Drop(name) })
}

func (s *Store) Put(name string, key, value []byte) (bool, api.Errno) {
	was := false
	e := s.change(func(g *grove.Grove) (e api.Errno) {
		was, e = g.Put(name, key, value)
		return e
	})
	return was, e
}

func (s *Store) Delete(name string, key []byte) (bool, api.Errno) {
	was := false
	e := s.change(func(g *grove.Grove) (e api.Errno) {
		was, e = g.Delete(name, key)
		return e
	})
	return was, e
}

func (s *Store) Load(name string, pairs []api.Pair) (int, api.Errno) {
	count := 0
	e := s.change(func(g *grove.Grove) (e api.Errno) {
		count, e = g.Load(name, slices.Values(pairs))
		return e
	})
	return count, e
}

// change does one change of the working state.
func (s *Store) change(do func(g *grove.Grove) api.Errno) api.Errno {
	return number(s.within(func(w *work) error { return w.change(do) }))
}
