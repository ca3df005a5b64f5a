package multi

import (
	"bytes"
	"iter"

	"espalier/api"
	"espalier/ink"
)

// finding is what an entry of the tree is found to be.
type finding int

const (
	absent  finding = iota // there is none
	ours                   // the entry of a key and a value
	foreign                // one that somebody else has put there
)

// errno is what is answered where an entry is found to be so.
func (f finding) errno() api.Errno {
	if f == foreign {
		return api.ErrNone
	}
	return api.OK
}

// entryKey is the key of the entry of a key and a value. Its first part ends where no longer key goes on, so that entries sort by the key ahead of the value.
func entryKey(key, value []byte) []byte { return append(ink.Ordered(key), value...) }

// read tells of which pair an entry is; none, if it is foreign.
func read(entry api.Pair) (api.Pair, finding) {
	key, at, e := ink.ReadOrdered(entry.Key, 0)
	if e != api.OK || len(entry.Value) > 0 {
		return api.Pair{}, foreign
	}
	return api.Pair{Key: key, Value: bytes.Clone(entry.Key[at:])}, ours
}

// look tells what stands at the key of an entry.
func (m *Multi) look(at []byte) (finding, api.Errno) {
	value, is, e := m.grove.Get(m.name, at)
	if e != api.OK || !is {
		return absent, e
	}
	_, found := read(api.Pair{Key: at, Value: value})
	return found, api.OK
}

// ofKey goes through the pairs of a key.
func (m *Multi) ofKey(key []byte) iter.Seq2[api.Pair, api.Errno] {
	lo := ink.Ordered(key)
	// There is always such a bound: what Ordered writes does not end with FF.
	hi, _ := ink.Behind(lo)
	return m.pairs(lo, hi)
}

// pairs goes through the pairs whose entries' keys are not ahead of lo, and ahead of hi; at last, where that ends with an error, a zero pair with it.
func (m *Multi) pairs(lo, hi []byte) iter.Seq2[api.Pair, api.Errno] {
	return func(yield func(api.Pair, api.Errno) bool) {
		for entry, e := range m.grove.Scan(m.name, lo, hi, false) {
			if e != api.OK {
				yield(api.Pair{}, e)
				return
			}
			p, found := read(entry)
			if !yield(p, found.errno()) || found == foreign {
				return
			}
		}
	}
}
