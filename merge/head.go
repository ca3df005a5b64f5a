package merge

import (
	"bytes"
	"iter"

	"espalier/api"
)

// stairs know the last key that was taken: a copy of their own, since whoever told it may use its bytes again.
type stairs struct {
	last  []byte
	begun bool
}

// climb takes a key, if it stands behind the last one. (Behind none each does, the empty one too.)
func (s *stairs) climb(key []byte) bool {
	if s.begun && bytes.Compare(key, s.last) <= 0 {
		return false
	}
	s.last, s.begun = append(s.last[:0], key...), true
	return true
}

func cloned(p api.Pair) api.Pair {
	return api.Pair{Key: bytes.Clone(p.Key), Value: bytes.Clone(p.Value)}
}

// taken tells a source's pairs to where it does not rise, copied while the source lends them.
func taken(source iter.Seq[api.Pair]) iter.Seq[api.Pair] {
	return func(yield func(api.Pair) bool) {
		if source == nil {
			return
		}
		var s stairs
		for p := range source {
			if !s.climb(p.Key) || !yield(cloned(p)) {
				return
			}
		}
	}
}

// head is where a range over a source stands: at one of its pairs, or, if none is there, ahead of the first or behind the last one.
type head struct {
	place int // among the sources
	pair  api.Pair
	there bool
	next  func() (api.Pair, bool)
	stop  func()
}

// step goes on to the next pair; whether there is one. What was told of the last one is not looked at: it is the hearer's.
func (h *head) step() bool {
	h.pair, h.there = h.next()
	return h.there
}

// begin makes a head of each source. None is read until it steps, so that whoever defers the end of them all misses none, should a source panic.
func begin(sources ...iter.Seq[api.Pair]) []*head {
	heads := make([]*head, len(sources))
	for i, source := range sources {
		next, stop := iter.Pull(taken(source))
		heads[i] = &head{place: i, next: next, stop: stop}
	}
	return heads
}

func stepAll(heads []*head) {
	for _, h := range heads {
		h.step()
	}
}

// end leaves the ranges over all sources: each in a deferred call, so that one that panics meanwhile keeps none from being left.
func end(heads []*head) {
	for _, h := range heads {
		defer h.stop()
	}
}
