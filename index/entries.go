package index

import (
	"bytes"

	"espalier/api"
	"espalier/tuple"
)

// entryOf is what stands in an index for a record; both may be.
func entryOf(x api.Index, r api.Record) ([]byte, api.Errno) {
	return tuple.Encode(append(itemsIn(x, r), r.Key)...)
}

// fits answers ErrSize, if a key of the grove may not have as many bytes. The grove tells that by its Delete alone, which is asked where nothing stands, so that nothing goes.
func (t *Table) fits(tree string, key []byte) api.Errno {
	_, is, e := t.grove.Get(tree, key)
	if e != api.OK || is {
		return e
	}
	_, e = t.grove.Delete(tree, key)
	return e
}

// entriesThatFit is a record's entries, index by index.
func (t *Table) entriesThatFit(indexes []api.Index, r api.Record) ([][]byte, api.Errno) {
	var entries [][]byte
	for _, x := range indexes {
		entry, e := entryOf(x, r)
		if e != api.OK {
			return nil, e
		}
		if e := t.fits(t.indexTree(x.Name), entry); e != api.OK {
			return nil, e
		}
		entries = append(entries, entry)
	}
	return entries, api.OK
}

// alone answers ErrUnique, if another record is alike with one, which has these entries, in a Unique index.
func (t *Table) alone(indexes []api.Index, entries [][]byte, r api.Record) api.Errno {
	for i, x := range indexes {
		if !x.Unique {
			continue
		}
		if e := t.aloneIn(x, entries[i], itemsIn(x, r)); e != api.OK {
			return e
		}
	}
	return api.OK
}

func (t *Table) aloneIn(x api.Index, entry []byte, items []api.Item) api.Errno {
	if hasNull(items) {
		return api.OK
	}
	lo, hi, _, e := tuple.Prefix(items...)
	if e != api.OK {
		return e
	}
	for p, e := range t.grove.Scan(t.indexTree(x.Name), lo, hi, false) {
		if e != api.OK {
			return e
		}
		if !bytes.Equal(p.Key, entry) {
			return api.ErrUnique
		}
	}
	return api.OK
}

// recordAt is the record whose key has these bytes, and whether there is one.
func (t *Table) recordAt(key []byte) (api.Record, bool, api.Errno) {
	value, is, e := t.grove.Get(t.recordsTree(), key)
	if e != api.OK || !is {
		return api.Record{}, false, e
	}
	r, e := recordOf(api.Pair{Key: key, Value: value})
	return r, e == api.OK, e
}

// entriesAt is the entries, index by index, of the record whose key has these bytes, and whether there is one.
func (t *Table) entriesAt(indexes []api.Index, key []byte) ([][]byte, bool, api.Errno) {
	r, is, e := t.recordAt(key)
	if e != api.OK || !is {
		return nil, false, e
	}
	var entries [][]byte
	for _, x := range indexes {
		entry, e := entryOf(x, r)
		if e != api.OK {
			return nil, false, e
		}
		entries = append(entries, entry)
	}
	return entries, true, api.OK
}

// replace puts a record's entries in the place of those that it had; either may be none. What stays as it is asks for no room.
func (t *Table) replace(indexes []api.Index, old, entries [][]byte) api.Errno {
	for i, x := range indexes {
		tree := t.indexTree(x.Name)
		from, to := entryAt(old, i), entryAt(entries, i)
		if bytes.Equal(from, to) {
			continue
		}
		if len(from) > 0 {
			if _, e := t.grove.Delete(tree, from); e != api.OK {
				return e
			}
		}
		if len(to) > 0 {
			if _, e := t.grove.Put(tree, to, nil); e != api.OK {
				return e
			}
		}
	}
	return api.OK
}

// entryAt is the entry in an index; none, if there are none.
func entryAt(entries [][]byte, i int) []byte {
	if len(entries) == 0 {
		return nil
	}
	return entries[i]
}
