package pager

import (
	"bytes"

	"espalier/api"
)

// Txn is the transaction; it is an api.Room.
type Txn struct {
	room
	begun       point          // how the stock stood behind Begin
	fresh       map[int][]byte // the fresh pages with what was written there; nil: nothing
	root, count int
}

// number is that of the commit which it would be.
func (t *Txn) number() int { return t.meta.Txn + 1 }

func (t *Txn) Read(n int) ([]byte, api.Errno) {
	if e := t.refusedOf(n); e != api.OK {
		return nil, e
	}
	if !t.Fresh(n) {
		return t.stored(n)
	}
	b := make([]byte, t.Size())
	copy(b, t.fresh[n])
	return b, api.OK
}

func (t *Txn) Alloc() (int, api.Errno) {
	if e := t.refused(); e != api.OK {
		return 0, e
	}
	n, ok := t.pager.stock.take()
	if !ok {
		return 0, api.ErrFull
	}
	t.fresh[n] = nil
	return n, api.OK
}

func (t *Txn) Write(n int, b []byte) api.Errno {
	if e := t.refusedOf(n); e != api.OK {
		return e
	}
	if !t.Fresh(n) {
		return api.ErrFresh
	}
	if len(b) != t.Size() {
		return api.ErrSize
	}
	t.fresh[n] = bytes.Clone(b)
	return api.OK
}

func (t *Txn) Free(n int) api.Errno {
	if e := t.refused(); e != api.OK {
		return e
	}
	if !t.pager.stock.isContent(n) {
		return api.ErrPage
	}
	if t.Fresh(n) {
		// No commit has had it: it waits for none.
		delete(t.fresh, n)
		t.pager.stock.give(n, 0)
	} else {
		t.pager.stock.give(n, t.number())
	}
	return api.OK
}

func (t *Txn) Fresh(n int) bool {
	_, ok := t.fresh[n]
	return ok
}

func (t *Txn) Spare(n int) bool {
	return !t.over && !t.pager.isDown() && t.pager.stock.affords(n)
}

// Root, Count: of the catalog as they were at Begin, or as SetRoot has said.
func (t *Txn) Root() (int, int) { return t.root, t.count }

func (t *Txn) SetRoot(root, count int) api.Errno {
	if e := t.refused(); e != api.OK {
		return e
	}
	isNone := root == 0 && count == 0
	if !isNone && !(t.pager.stock.isContent(root) && count >= 1 && count <= api.MaxTrees) {
		return api.ErrArg
	}
	t.root, t.count = root, count
	return api.OK
}

func (t *Txn) Rollback() api.Errno {
	if e := t.refused(); e != api.OK {
		return e
	}
	t.giveUp()
	return api.OK
}

// refusedOf is refused, of a page that must be in use.
func (t *Txn) refusedOf(n int) api.Errno {
	if e := t.refused(); e != api.OK {
		return e
	}
	if !t.pager.stock.inUse(n) {
		return api.ErrPage
	}
	return api.OK
}

func (t *Txn) giveUp() {
	t.pager.stock.back(t.begun)
	t.end()
}

// end leaves nothing that Fresh or Root could tell of.
func (t *Txn) end() {
	t.over, t.pager.busy = true, false
	t.begun, t.fresh, t.root, t.count = point{}, nil, 0, 0
}
