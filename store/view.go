package store

import (
	"slices"

	"espalier/api"
	"espalier/grove"
	"espalier/pager"
)

// View is a look at a commit.
type View struct {
	store  *Store
	pages  *pager.View
	grove  *grove.Grove
	closed bool
}

// View is a look at the last commit, whatever is committed later.
func (s *Store) View() (*View, api.Errno) {
	if err := s.ready(); err != nil {
		return nil, number(err)
	}
	pages, e := s.pager.View()
	if e != api.OK {
		return nil, e
	}
	m := pages.Meta()
	v := &View{store: s, pages: pages, grove: grove.Open(pages, m.Root, m.Count)}
	s.views = append(s.views, v)
	return v, api.OK
}

func (v *View) Get(name string, key []byte) ([]byte, bool, api.Errno) {
	if err := v.ready(); err != nil {
		return nil, false, number(err)
	}
	return v.grove.Get(name, key)
}

func (v *View) Scan(name string, lo, hi []byte, limit int, reverse bool) ([]api.Pair, api.Errno) {
	if err := v.ready(); err != nil {
		return nil, number(err)
	}
	return scan(v.grove, name, lo, hi, limit, reverse)
}

func (v *View) Names() ([]string, api.Errno) {
	if err := v.ready(); err != nil {
		return nil, number(err)
	}
	return v.grove.Names()
}

func (v *View) Txn() int { return v.Meta().Txn }

// Grove, Room, Meta: what a look stands on (for the layers above).
func (v *View) Grove() *grove.Grove {
	if v.closed {
		return nil
	}
	return v.grove
}

func (v *View) Room() api.Room {
	if v.closed {
		return nil
	}
	return v.pages
}

func (v *View) Meta() api.Meta { return v.pages.Meta() }

// Kin tells whether two are looks at one store.
func (v *View) Kin(w *View) bool { return w != nil && v.store == w.store }

func (v *View) Close() {
	v.end()
	v.store.views = slices.DeleteFunc(v.store.views, func(w *View) bool { return w == v })
}

// ready is the error of a look that is closed, or whose store is closed or down.
func (v *View) ready() error {
	if v.closed {
		return refused(api.ErrView)
	}
	return v.store.ready()
}

// end closes it, but leaves it among the store's.
func (v *View) end() {
	v.closed = true
	v.pages.Close()
}
