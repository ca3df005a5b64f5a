package store

import (
	"espalier/api"
	"espalier/grove"
)

// Get, Scan, Len, Rank, At, Names: in the transaction, if there is one, else in the last commit.
func (s *Store) Get(name string, key []byte) ([]byte, bool, api.Errno) {
	g, err := s.state()
	if err != nil {
		return nil, false, number(err)
	}
	return g.Get(name, key)
}

func (s *Store) Scan(name string, lo, hi []byte, limit int, reverse bool) ([]api.Pair, api.Errno) {
	g, err := s.state()
	if err != nil {
		return nil, number(err)
	}
	return scan(g, name, lo, hi, limit, reverse)
}

func (s *Store) Len(name string) (int, api.Errno) {
	g, err := s.state()
	if err != nil {
		return 0, number(err)
	}
	return g.Len(name)
}

func (s *Store) Rank(name string, key []byte) (int, api.Errno) {
	g, err := s.state()
	if err != nil {
		return 0, number(err)
	}
	return g.Rank(name, key)
}

func (s *Store) At(name string, i int) (api.Pair, bool, api.Errno) {
	g, err := s.state()
	if err != nil {
		return api.Pair{}, false, number(err)
	}
	return g.At(name, i)
}

func (s *Store) Names() ([]string, api.Errno) {
	g, err := s.state()
	if err != nil {
		return nil, number(err)
	}
	return g.Names()
}

// Grove is the transaction's (for the layers above).
func (s *Store) Grove() (*grove.Grove, api.Errno) {
	w, err := s.working()
	if err != nil {
		return nil, number(err)
	}
	return w.grove, api.OK
}

// state is the grove that questions are about.
func (s *Store) state() (*grove.Grove, error) {
	if err := s.ready(); err != nil {
		return nil, err
	}
	if s.work != nil {
		return s.work.grove, nil
	}
	m := s.pager.Meta()
	return grove.Open(look{device: s.device, meta: m}, m.Root, m.Count), nil
}

// scan is the first limit pairs of a range. The tree is asked for first, for its want counts ahead of a wrong limit.
func scan(g *grove.Grove, name string, lo, hi []byte, limit int, reverse bool) ([]api.Pair, api.Errno) {
	if _, _, e := g.Tree(name); e != api.OK {
		return nil, e
	}
	if limit < 0 || limit > api.MaxLimit {
		return nil, api.ErrArg
	}
	if limit == 0 {
		return nil, api.OK
	}
	var pairs []api.Pair
	for p, e := range g.Scan(name, lo, hi, reverse) {
		if e != api.OK {
			return nil, e
		}
		pairs = append(pairs, p)
		if len(pairs) == limit {
			break
		}
	}
	return pairs, api.OK
}
