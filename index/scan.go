package index

import (
	"espalier/api"
	"espalier/tuple"
)

// stretch is a part of a tree, and the way in which it is gone through.
type stretch struct {
	lo, hi        []byte
	open, reverse bool
}

// tell goes through records by an index, and answers the error by which that ends.
func (t *Table) tell(index string, part stretch, yield func(api.Record, api.Errno) bool) api.Errno {
	indexes, e := t.indexes()
	if e != api.OK {
		return e
	}
	tree, record := t.recordsTree(), recordOf
	if index != "" {
		if !named(indexes, index) {
			return api.ErrIndex
		}
		tree, record = t.indexTree(index), t.recordBehind
	}
	hi := part.hi
	if part.open {
		hi = nil
	} else if len(hi) == 0 {
		return api.OK // to the grove it would be a range without an end
	}
	for p, e := range t.grove.Scan(tree, part.lo, hi, part.reverse) {
		if e != api.OK {
			return e
		}
		r, e := record(p)
		if e != api.OK {
			return e
		}
		if !yield(r, api.OK) {
			return api.OK
		}
	}
	return api.OK
}

// recordBehind is the record to which a pair of an index leads; ErrIndex, if there is none.
func (t *Table) recordBehind(p api.Pair) (api.Record, api.Errno) {
	items, e := tuple.Decode(p.Key)
	if e != api.OK || len(items) == 0 {
		return api.Record{}, api.ErrIndex
	}
	key, e := tuple.Encode(items[len(items)-1])
	if e != api.OK {
		return api.Record{}, e
	}
	r, is, e := t.recordAt(key)
	if e == api.OK && !is {
		return api.Record{}, api.ErrIndex
	}
	return r, e
}
