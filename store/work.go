package store

import (
	"errors"

	"espalier/api"
	"espalier/grove"
	"espalier/pager"
)

// work is a transaction that is open, as the room of its grove. It knows whether a change has begun, for an error behind that leaves the change half done.
type work struct {
	*pager.Txn
	grove *grove.Grove
	begun bool // since the last change was asked for, a page was taken, written or given back
}

func newWork(t *pager.Txn) *work {
	w := &work{Txn: t}
	root, count := t.Root()
	w.grove = grove.Open(w, root, count)
	return w
}

func (w *work) Alloc() (int, api.Errno) {
	w.begun = true
	return w.Txn.Alloc()
}

func (w *work) Write(n int, b []byte) api.Errno {
	w.begun = true
	return w.Txn.Write(n, b)
}

func (w *work) Free(n int) api.Errno {
	w.begun = true
	return w.Txn.Free(n)
}

func (w *work) change(do func(g *grove.Grove) api.Errno) error {
	w.begun = false
	e := do(w.grove)
	if w.begun {
		return torn(e)
	}
	return refused(e)
}

func (w *work) commit() (int, error) {
	if e := w.SetRoot(w.grove.Root()); e != api.OK {
		return 0, refused(e)
	}
	txn, e := w.Commit()
	if e == api.ErrDown {
		return 0, torn(e)
	}
	return txn, refused(e)
}

// working is the transaction that is open.
func (s *Store) working() (*work, error) {
	if err := s.ready(); err != nil {
		return nil, err
	}
	if s.work == nil {
		return nil, refused(api.ErrNoTxn)
	}
	return s.work, nil
}

// within does something in the transaction, which is given up, if that ends in its midst.
func (s *Store) within(do func(w *work) error) (err error) {
	w, err := s.working()
	if err != nil {
		return err
	}
	defer func() {
		if errors.Is(err, errTorn) {
			s.giveUp()
		}
	}()
	return do(w)
}
