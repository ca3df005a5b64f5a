package grove_test

import (
	"bytes"
	"fmt"
	"iter"
	"maps"
	"math/rand"
	"slices"
	"strconv"
	"strings"
	"testing"

	"espalier/api"
	"espalier/grove"
	"espalier/node"
)

func engines() []int { return []int{api.Plain, api.Packed} }

// chance is the same row of numbers in every run.
func chance() *rand.Rand { return rand.New(rand.NewSource(15)) }

// long is a text of n bytes that are not all alike, so that bytes out of place show; which is another one for each mark.
func long(n int, mark byte) string {
	b := make([]byte, n)
	for i := range b {
		b[i] = mark + byte(i) + byte(i/251)
	}
	return string(b)
}

func same[T comparable](t *testing.T, what string, got, want T) {
	if got != want {
		t.Helper()
		t.Errorf("%s: %v, want %v", what, got, want)
	}
}

// brief is the beginning of a list, for whole ones are too long to print.
func brief[T any](l []T) string {
	if len(l) > 30 {
		return fmt.Sprintf("%v and so on, %d in all", l[:30], len(l))
	}
	return fmt.Sprint(l)
}

func sameList[T comparable](t *testing.T, what string, got, want []T) {
	if !slices.Equal(got, want) {
		t.Helper()
		t.Errorf("%s: %s, want %s", what, brief(got), brief(want))
	}
}

// sameText tells where texts differ, for values are too long to print.
func sameText(t *testing.T, what, got, want string) {
	if got == want {
		return
	}
	t.Helper()
	at := 0
	for at < len(got) && at < len(want) && got[at] == want[at] {
		at++
	}
	t.Errorf("%s: %d bytes, want %d; from byte %d on they differ: %.40q, want %.40q", what, len(got), len(want), at, got[at:], want[at:])
}

// pair is a pair as texts.
type pair struct{ key, value string }

func (p pair) raw() api.Pair { return api.Pair{Key: []byte(p.key), Value: []byte(p.value)} }

func asPair(p api.Pair) pair { return pair{string(p.Key), string(p.Value)} }

// row is pairs of keys and values in turns.
func row(l ...string) []pair {
	var out []pair
	for i := 0; i+1 < len(l); i += 2 {
		out = append(out, pair{l[i], l[i+1]})
	}
	return out
}

// numbered is n pairs whose keys rise, with values of that length each.
func numbered(n, length int) []pair {
	var l []pair
	for i := range n {
		l = append(l, pair{fmt.Sprintf("k%05d", i), long(length, byte(i))})
	}
	return l
}

func samePairs(t *testing.T, what string, got, want []pair) {
	if slices.Equal(got, want) {
		return
	}
	t.Helper()
	sameList(t, what+": keys", keysOf(got), keysOf(want))
	for i := range min(len(got), len(want)) {
		sameText(t, fmt.Sprintf("%s: at %.20q", what, want[i].key), got[i].value, want[i].value)
	}
}

func keysOf(l []pair) []string {
	var keys []string
	for _, p := range l {
		keys = append(keys, p.key)
	}
	return keys
}

// teller tells pairs, and counts.
type teller struct {
	pairs []pair
	began int // how often it was gone through
	told  int // how many pairs it has told
}

func tells(l ...pair) *teller { return &teller{pairs: l} }

func (l *teller) all() iter.Seq[api.Pair] {
	return func(yield func(api.Pair) bool) {
		l.began++
		for _, p := range l.pairs {
			l.told++
			if !yield(p.raw()) {
				return
			}
		}
	}
}

// An error that no other part of these tests tells.
const ofTheRoom = api.ErrViews

// act is something that a room was asked.
type act struct {
	what string
	n    int
}

// shelf is a room of which a test sees and sets all. It hands out its own memory, and keeps what it is given, so that whoever shares it is seen.
type shelf struct {
	engine, size int
	held         map[int][]byte
	fresh        map[int]bool
	waiting      map[int]bool       // given back, and not to be taken again: others may look at them
	pick         func(s *shelf) int // the next page
	low          int                // no page below it is free
	left         int                // how many pages may be taken yet
	isView       bool               // as a view it has none, and refuses changes
	acts         []act
	fail         int // the number of the act that is refused, from 0 on; below 0: none
}

const plenty = 60000

func newShelf(engine, size int) *shelf {
	return &shelf{
		engine: engine, size: size, held: map[int][]byte{}, fresh: map[int]bool{}, waiting: map[int]bool{},
		pick: leastPage, low: 2, left: plenty, fail: -1,
	}
}

func (s *shelf) isFree(n int) bool {
	_, held := s.held[n]
	return !held && !s.waiting[n]
}

// leastPage takes pages as benches and the pager do.
func leastPage(s *shelf) int {
	for !s.isFree(s.low) {
		s.low++
	}
	return s.low
}

// anyPage takes pages of short and long numbers, in no order.
func anyPage(r *rand.Rand) func(s *shelf) int {
	return func(s *shelf) int {
		for {
			n := 2 + r.Intn([]int{100, 126, 300, 16382, 20000, 65534}[r.Intn(6)])
			if s.isFree(n) {
				return n
			}
		}
	}
}

func (s *shelf) refuses(what string, n int) bool {
	s.acts = append(s.acts, act{what, n})
	return s.fail == len(s.acts)-1
}

func (s *shelf) Engine() int { return s.engine }

func (s *shelf) Size() int { return s.size }

func (s *shelf) Read(n int) ([]byte, api.Errno) {
	if s.refuses("read", n) {
		return nil, ofTheRoom
	}
	b, is := s.held[n]
	if !is {
		return nil, api.ErrPage
	}
	return b, api.OK
}

func (s *shelf) Alloc() (int, api.Errno) {
	if s.refuses("alloc", 0) {
		return 0, ofTheRoom
	}
	if s.isView {
		return 0, api.ErrState
	}
	if s.left == 0 {
		return 0, api.ErrFull
	}
	n := s.pick(s)
	s.left--
	s.held[n], s.fresh[n] = make([]byte, s.size), true
	return n, api.OK
}

func (s *shelf) Write(n int, b []byte) api.Errno {
	if s.refuses("write", n) {
		return ofTheRoom
	}
	_, is := s.held[n]
	switch {
	case s.isView:
		return api.ErrState
	case !is:
		return api.ErrPage
	case !s.fresh[n]:
		return api.ErrFresh
	case len(b) != s.size:
		return api.ErrSize
	}
	s.held[n] = b
	return api.OK
}

func (s *shelf) Free(n int) api.Errno {
	if s.refuses("free", n) {
		return ofTheRoom
	}
	if s.isView {
		return api.ErrState
	}
	if _, is := s.held[n]; !is {
		return api.ErrPage
	}
	if s.fresh[n] {
		s.left++
	} else {
		s.waiting[n] = true
	}
	delete(s.held, n)
	delete(s.fresh, n)
	s.low = min(s.low, n)
	return api.OK
}

func (s *shelf) Fresh(n int) bool { return s.fresh[n] }

func (s *shelf) Spare(n int) bool {
	s.acts = append(s.acts, act{"spare", n})
	return !s.isView && n <= s.left
}

// settle is a commit: no page is fresh any more, and none waits.
func (s *shelf) settle() {
	s.left, s.low = s.left+len(s.waiting), 2
	clear(s.fresh)
	clear(s.waiting)
}

// copied is another shelf with the same pages in memory of their own, fresh as they are.
func (s *shelf) copied() *shelf {
	c := newShelf(s.engine, s.size)
	for n, b := range s.held {
		c.held[n] = bytes.Clone(b)
	}
	maps.Copy(c.fresh, s.fresh)
	maps.Copy(c.waiting, s.waiting)
	c.left = s.left
	return c
}

// settled is such a copy behind a commit.
func (s *shelf) settled() *shelf {
	c := s.copied()
	c.settle()
	return c
}

// asked tells the numbers with which that was asked, in order.
func (s *shelf) asked(what string) []int {
	var l []int
	for _, a := range s.acts {
		if a.what == what {
			l = append(l, a.n)
		}
	}
	return l
}

// justLooked holds what the room was asked from that act on against what a look may ask.
func (s *shelf) justLooked(t *testing.T, what string, from int) {
	t.Helper()
	for _, a := range s.acts[from:] {
		if a.what != "read" {
			t.Errorf("%s: the room was asked to %s %d", what, a.what, a.n)
			return
		}
	}
}

// justAsked is the same, but that spare pages may be asked for.
func (s *shelf) justAsked(t *testing.T, what string, from int) {
	t.Helper()
	for _, a := range s.acts[from:] {
		if a.what != "read" && a.what != "spare" {
			t.Errorf("%s: the room was asked to %s %d", what, a.what, a.n)
			return
		}
	}
}

// taken is the pages that there are, rising.
func (s *shelf) taken() []int { return slices.Sorted(maps.Keys(s.held)) }

// image is all pages that there are, as one text.
func (s *shelf) image() string {
	var b strings.Builder
	b.Grow(len(s.held) * (s.size + 8))
	for _, n := range s.taken() {
		b.WriteString(strconv.Itoa(n) + ":")
		b.Write(s.held[n])
	}
	return b.String()
}

// lay puts a page of these cells there.
func (s *shelf) lay(t *testing.T, page, kind int, cells ...api.Cell) {
	t.Helper()
	b, e := node.Encode(s.engine, kind, cells, s.size)
	if e != api.OK {
		t.Fatalf("no page of %d cells: %d", len(cells), e)
	}
	s.held[page] = b
}

func value(key, v string) api.Cell {
	return api.Cell{Key: []byte(key), Kind: api.CellValue, Value: []byte(v)}
}

func spilled(key string, page, count int) api.Cell {
	return api.Cell{Key: []byte(key), Kind: api.CellSpill, Page: page, Count: count}
}

func tree(key string, page, count int) api.Cell {
	return api.Cell{Key: []byte(key), Kind: api.CellTree, Page: page, Count: count}
}

func lead(key string, page, count int) api.Cell {
	return api.Cell{Key: []byte(key), Kind: api.CellChild, Page: page, Count: count}
}

// scanned is what a range tells, up to most pairs, and the error at its end.
func scanned(g *grove.Grove, name, lo, hi string, reverse bool, most int) ([]pair, api.Errno) {
	var l []pair
	for p, e := range g.Scan(name, []byte(lo), []byte(hi), reverse) {
		if e != api.OK {
			return l, e
		}
		if len(l) == most {
			break
		}
		l = append(l, asPair(p))
	}
	return l, api.OK
}
