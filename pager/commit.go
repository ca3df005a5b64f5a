package pager

import (
	"maps"
	"slices"

	"espalier/api"
	"espalier/free"
)

// Commit makes all of it last: the number of the commit; Rollback gives it up.
func (t *Txn) Commit() (number int, e api.Errno) {
	if e := t.refused(); e != api.OK {
		return 0, e
	}
	p := t.pager
	if t.root != 0 && !p.stock.inUse(t.root) {
		return 0, api.ErrArg
	}
	chain, e := p.stock.takeChain()
	if e != api.OK {
		return 0, e
	}
	defer func() {
		if e != api.OK {
			p.foundDown()
			t.giveUp()
		}
	}()
	p.stock.turn(chain, t.number())
	m := t.outcome(chain)
	if e := t.lay(chain, m); e != api.OK {
		return 0, e
	}
	p.last = m
	t.end()
	p.release()
	return m.Txn, api.OK
}

// outcome is the meta of this commit.
func (t *Txn) outcome(chain []int) api.Meta {
	s := t.pager.stock
	m := api.Meta{Engine: t.Engine(), Page: t.Size(), Txn: t.number(), Root: t.root, Count: t.count, Listed: len(s.listed), High: s.high}
	if len(chain) > 0 {
		m.Free = chain[0]
	}
	return m
}

// lay brings it all to the device. The meta page comes when all else is safe: up to then the last commit is whole.
func (t *Txn) lay(chain []int, m api.Meta) api.Errno {
	if e := t.writeFresh(); e != api.OK {
		return e
	}
	if e := t.writeChain(chain); e != api.OK {
		return e
	}
	if e := t.pager.device.Sync(); e != api.OK {
		return e
	}
	return writeMeta(t.pager.device, m)
}

func (t *Txn) writeFresh() api.Errno {
	for _, n := range slices.Sorted(maps.Keys(t.fresh)) {
		if t.fresh[n] == nil {
			continue
		}
		if e := t.pager.device.Write(n, t.fresh[n]); e != api.OK {
			return e
		}
	}
	return api.OK
}

// writeChain writes the list. Its last pages may list none: what was taken for them stood in it.
func (t *Txn) writeChain(chain []int) api.Errno {
	rest := t.pager.stock.list.All()
	for i, n := range chain {
		next := 0
		if i+1 < len(chain) {
			next = chain[i+1]
		}
		most := min(t.pager.stock.room, len(rest))
		b, e := free.Encode(next, rest[:most], t.Size())
		if e != api.OK {
			return e
		}
		if e := t.pager.device.Write(n, b); e != api.OK {
			return e
		}
		rest = rest[most:]
	}
	return api.OK
}
