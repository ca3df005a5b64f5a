package merge

import (
	"iter"
	"slices"
	"sync"

	"espalier/api"
)

// Side reads up to most pairs of each source, side by side, and answers what Union would tell of them.
func Side(most int, sources ...iter.Seq[api.Pair]) ([]api.Pair, api.Errno) {
	switch {
	case most < 0 || most > api.MaxLimit:
		return nil, api.ErrArg
	case len(sources) > api.MaxFans:
		return nil, api.ErrLong
	case slices.ContainsFunc(sources, isNil):
		return nil, api.ErrSource
	case most == 0:
		return nil, api.OK
	}
	lists, rise := takeAll(most, sources)
	if !rise {
		return nil, api.ErrSource
	}
	return slices.Collect(Union(tellers(lists)...)), api.OK
}

func isNil(source iter.Seq[api.Pair]) bool { return source == nil }

func tellers(lists [][]api.Pair) []iter.Seq[api.Pair] {
	var sources []iter.Seq[api.Pair]
	for _, l := range lists {
		sources = append(sources, slices.Values(l))
	}
	return sources
}

// takeAll takes the first pairs of all sources, a list each; false, if one of them does not rise. Beside each taker stands a keeper of its own: one for all would let a source wait for another, whose turn may never come if they hang on one another (by a lock, say).
func takeAll(most int, sources []iter.Seq[api.Pair]) ([][]api.Pair, bool) {
	lists, rises := make([][]api.Pair, len(sources)), make([]bool, len(sources))
	over := make(chan struct{})
	var once sync.Once
	var all sync.WaitGroup
	for i, source := range sources {
		pairs := make(chan api.Pair)
		all.Add(2)
		go func() {
			defer all.Done()
			if rises[i] = take(most, source, pairs, over); !rises[i] {
				once.Do(func() { close(over) })
			}
		}()
		go func() {
			defer all.Done()
			for p := range pairs {
				lists[i] = append(lists[i], p)
			}
		}()
	}
	all.Wait()
	return lists, !slices.Contains(rises, false)
}

// take sends the first pairs of a source, until all is over, and closes the channel behind them; false, if they do not rise. A source that panics is none: here, in a goroutine of its own, nobody else could catch it.
func take(most int, source iter.Seq[api.Pair], pairs chan<- api.Pair, over <-chan struct{}) (rises bool) {
	defer close(pairs)
	defer func() {
		if recover() != nil {
			rises = false
		}
	}()
	var s stairs
	left := most
	for p := range source {
		if !s.climb(p.Key) {
			return false
		}
		select {
		case pairs <- cloned(p):
		case <-over:
			return true
		}
		if left--; left == 0 {
			break
		}
	}
	return true
}
