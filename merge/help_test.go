package merge_test

import (
	"fmt"
	"iter"
	"maps"
	"math/rand"
	"slices"
	"strings"
	"testing"

	"espalier/api"
	"espalier/merge"
)

// chance is the same row of numbers in every run.
func chance(seed int64) *rand.Rand { return rand.New(rand.NewSource(seed)) }

func same[T comparable](t *testing.T, what string, got, want T) {
	if got != want {
		t.Helper()
		t.Errorf("%s: %#v, want %#v", what, got, want)
	}
}

func sameList[T comparable](t *testing.T, what string, got, want []T) {
	if !slices.Equal(got, want) {
		t.Helper()
		t.Errorf("%s: %q, want %q", what, fmt.Sprint(got), fmt.Sprint(want))
	}
}

// pair is a key and a value as texts.
type pair struct{ key, value string }

// of are pairs by their texts: each key is one letter, the value is the rest.
func of(texts string) []pair {
	var l []pair
	for _, s := range strings.Fields(texts) {
		l = append(l, pair{s[:1], s[1:]})
	}
	return l
}

func asPair(p api.Pair) pair { return pair{string(p.Key), string(p.Value)} }

func asPairs(l []api.Pair) []pair {
	var out []pair
	for _, p := range l {
		out = append(out, asPair(p))
	}
	return out
}

func bytesOf(l []pair) []api.Pair {
	var out []api.Pair
	for _, p := range l {
		out = append(out, api.Pair{Key: []byte(p.key), Value: []byte(p.value)})
	}
	return out
}

// teller is a source that notes how it is read. It lends its bytes: when a pair was told they are written over.
type teller struct {
	pairs []pair
	begun int // ranges that were begun,
	over  int // and those that are over, or left
	told  int // pairs in all
	key   []byte
	value []byte
}

func tells(pairs ...pair) *teller { return &teller{pairs: pairs} }

func tellsText(texts string) *teller { return tells(of(texts)...) }

func lend(room []byte, text string) []byte { return append(room[:0], text...) }

func (s *teller) each(yield func(api.Pair) bool) {
	s.begun++
	defer func() { s.over++ }()
	for _, p := range s.pairs {
		s.told++
		s.key, s.value = lend(s.key, p.key), lend(s.value, p.value)
		more := yield(api.Pair{Key: s.key, Value: s.value})
		for _, b := range [][]byte{s.key, s.value} {
			for i := range b[:cap(b)] {
				b[:cap(b)][i] = '#'
			}
		}
		if !more {
			return
		}
	}
}

func sequences(sources []*teller) []iter.Seq[api.Pair] {
	var l []iter.Seq[api.Pair]
	for _, s := range sources {
		if s == nil {
			l = append(l, nil)
			continue
		}
		l = append(l, s.each)
	}
	return l
}

// taken are a source's pairs: those to where it does not rise.
func taken(s *teller) []pair {
	if s == nil {
		return nil
	}
	for i := 1; i < len(s.pairs); i++ {
		if s.pairs[i].key <= s.pairs[i-1].key {
			return s.pairs[:i]
		}
	}
	return s.pairs
}

// byKeys are the values of each key, in the sources' order.
func byKeys(sources []*teller) map[string][]string {
	m := map[string][]string{}
	for _, s := range sources {
		for _, p := range taken(s) {
			m[p.key] = append(m[p.key], p.value)
		}
	}
	return m
}

func has(s *teller, key string) (value string, there bool) {
	for _, p := range taken(s) {
		if p.key == key {
			return p.value, true
		}
	}
	return "", false
}

// kind is one of the five that answer a sequence. What it tells is a key, and its values as one text.
type kind struct {
	name string
	two  bool // it is of two sources
	ask  func(l []iter.Seq[api.Pair]) iter.Seq[pair]
	want func(sources []*teller) []pair
}

func asTexts(s iter.Seq[api.Pair]) iter.Seq[pair] {
	return func(yield func(pair) bool) {
		for p := range s {
			if !yield(asPair(p)) {
				return
			}
		}
	}
}

func joined(s iter.Seq2[api.Pair, api.Pair]) iter.Seq[pair] {
	return func(yield func(pair) bool) {
		for p, q := range s {
			key := string(p.Key)
			if string(q.Key) != key {
				key += " beside " + string(q.Key)
			}
			if !yield(pair{key, string(p.Value) + "|" + string(q.Value)}) {
				return
			}
		}
	}
}

// inARow is a fold: all values in a row.
func inARow(_ []byte, values [][]byte) ([]byte, bool) { return slices.Concat(values...), true }

// ofSeveral is a fold of keys that several sources have.
func ofSeveral(_ []byte, values [][]byte) ([]byte, bool) {
	var row []byte
	for _, v := range values {
		row = append(append(row, v...), '+')
	}
	return row, len(values) > 1
}

// perKey are the pairs that pick makes of each key and its values, by rising keys.
func perKey(sources []*teller, pick func(values []string) (string, bool)) []pair {
	var l []pair
	m := byKeys(sources)
	for _, k := range slices.Sorted(maps.Keys(m)) {
		if v, ok := pick(m[k]); ok {
			l = append(l, pair{k, v})
		}
	}
	return l
}

// perPair are the pairs that pick makes of each pair of the first source, and what the second has there.
func perPair(sources []*teller, pick func(mine, yours string, there bool) (string, bool)) []pair {
	var l []pair
	for _, p := range taken(sources[0]) {
		yours, there := has(sources[1], p.key)
		if v, ok := pick(p.value, yours, there); ok {
			l = append(l, pair{p.key, v})
		}
	}
	return l
}

func kinds() []kind {
	return []kind{
		{"Union", false, func(l []iter.Seq[api.Pair]) iter.Seq[pair] { return asTexts(merge.Union(l...)) }, func(l []*teller) []pair {
			return perKey(l, func(values []string) (string, bool) { return values[0], true })
		}},
		{"Both", true, func(l []iter.Seq[api.Pair]) iter.Seq[pair] { return asTexts(merge.Both(l[0], l[1])) }, func(l []*teller) []pair {
			return perPair(l, func(mine, _ string, there bool) (string, bool) { return mine, there })
		}},
		{"Without", true, func(l []iter.Seq[api.Pair]) iter.Seq[pair] { return asTexts(merge.Without(l[0], l[1])) }, func(l []*teller) []pair {
			return perPair(l, func(mine, _ string, there bool) (string, bool) { return mine, !there })
		}},
		{"Join", true, func(l []iter.Seq[api.Pair]) iter.Seq[pair] { return joined(merge.Join(l[0], l[1])) }, func(l []*teller) []pair {
			return perPair(l, func(mine, yours string, there bool) (string, bool) { return mine + "|" + yours, there })
		}},
		{"Group in a row", false, func(l []iter.Seq[api.Pair]) iter.Seq[pair] { return asTexts(merge.Group(inARow, l...)) }, func(l []*teller) []pair {
			return perKey(l, func(values []string) (string, bool) { return strings.Join(values, ""), true })
		}},
		{"Group of several", false, func(l []iter.Seq[api.Pair]) iter.Seq[pair] { return asTexts(merge.Group(ofSeveral, l...)) }, func(l []*teller) []pair {
			return perKey(l, func(values []string) (string, bool) { return strings.Join(values, "+") + "+", len(values) > 1 })
		}},
	}
}

func (k kind) takes(sources []*teller) bool { return !k.two || len(sources) == 2 }

func (k kind) of(sources []*teller) string { return k.name + " of " + described(sources) }

func described(sources []*teller) string {
	var l []string
	for _, s := range sources {
		if s == nil {
			l = append(l, "nil")
			continue
		}
		l = append(l, fmt.Sprintf("%.60q", s.pairs))
	}
	return strings.Join(l, ", ")
}

// reset forgets what sources have told.
func reset(sources []*teller) {
	for _, s := range sources {
		if s != nil {
			s.begun, s.over, s.told = 0, 0, 0
		}
	}
}

// drawn are pairs with short keys of few letters, the empty one among them, of which some begin others; now and then they do not rise.
func drawn(c *rand.Rand, most int) []pair {
	values := map[string]string{}
	for range c.Intn(most + 1) {
		key := ""
		for range c.Intn(4) {
			key += []string{"a", "b", "\x00", "\xff"}[c.Intn(4)]
		}
		values[key] = []string{"", fmt.Sprint(c.Intn(100))}[c.Intn(2)]
	}
	var l []pair
	for _, k := range slices.Sorted(maps.Keys(values)) {
		l = append(l, pair{k, values[k]})
	}
	if len(l) > 1 && c.Intn(3) == 0 {
		i, j := c.Intn(len(l)), c.Intn(len(l))
		l[i], l[j] = l[j], l[i]
	}
	if len(l) > 0 && c.Intn(6) == 0 {
		l = slices.Insert(l, c.Intn(len(l)), l[c.Intn(len(l))])
	}
	return l
}

// drawnSources are some sources, nil among them now and then.
func drawnSources(c *rand.Rand, n, most int) []*teller {
	var l []*teller
	for range n {
		if c.Intn(8) == 0 {
			l = append(l, nil)
			continue
		}
		l = append(l, tells(drawn(c, most)...))
	}
	return l
}
