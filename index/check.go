package index

import (
	"iter"

	"espalier/api"
	"espalier/tuple"
)

// checkRecords answers ErrTable, if the records' tree is not there; ErrField, if one of its pairs is no record's.
func (t *Table) checkRecords() api.Errno {
	for _, e := range t.records() {
		if e != api.OK {
			return e
		}
	}
	return api.OK
}

// records goes through the records' tree; at last, where that ends with an error, a zero record with it.
func (t *Table) records() iter.Seq2[api.Record, api.Errno] {
	return func(yield func(api.Record, api.Errno) bool) {
		for p, e := range t.grove.Scan(t.recordsTree(), nil, nil, false) {
			if e == api.ErrNoTree {
				e = api.ErrTable
			}
			var r api.Record
			if e == api.OK {
				r, e = recordOf(p)
			}
			if !yield(r, e) || e != api.OK {
				return
			}
		}
	}
}

// wanted is what an index should have: each record's entry, and how many of its bytes are those of its items there; 0, if one of these is Null, so that it is alike with no other.
type wanted map[string]int

// checkIndex answers ErrIndex, if an index has not just what it should have; ErrUnique, if it is Unique, and two records are alike there.
func (t *Table) checkIndex(x api.Index) api.Errno {
	want, e := t.wantedIn(x)
	if e != api.OK {
		return e
	}
	if e := t.hasJust(x, want); e != api.OK {
		return e
	}
	if x.Unique && want.someAlike() {
		return api.ErrUnique
	}
	return api.OK
}

func (t *Table) wantedIn(x api.Index) (wanted, api.Errno) {
	want := wanted{}
	for r, e := range t.records() {
		if e != api.OK {
			return nil, e
		}
		entry, e := entryOf(x, r)
		if e != api.OK {
			return nil, api.ErrIndex // no index can have what is no entry
		}
		want[string(entry)] = headOf(x, r)
	}
	return want, api.OK
}

// headOf is how many bytes the record's items in the index have; 0, if one of them is Null.
func headOf(x api.Index, r api.Record) int {
	items := itemsIn(x, r)
	if hasNull(items) {
		return 0
	}
	// Items that are part of an entry may be by themselves.
	head, _ := tuple.Encode(items...)
	return len(head)
}

func (t *Table) hasJust(x api.Index, want wanted) api.Errno {
	count := 0
	for p, e := range t.grove.Scan(t.indexTree(x.Name), nil, nil, false) {
		if e == api.ErrNoTree {
			return api.ErrIndex
		}
		if e != api.OK {
			return e
		}
		if _, is := want[string(p.Key)]; !is || len(p.Value) > 0 {
			return api.ErrIndex
		}
		count++
	}
	if count != len(want) {
		return api.ErrIndex
	}
	return api.OK
}

// someAlike tells whether two of the entries are of the same items, none of them Null.
func (w wanted) someAlike() bool {
	heads := map[string]int{}
	for entry, n := range w {
		head := entry[:n]
		if n > 0 && heads[head] > 0 {
			return true
		}
		heads[head]++
	}
	return false
}
