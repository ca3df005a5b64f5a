package store_test

import (
	"fmt"
	"maps"
	"math/rand"
	"slices"
	"strings"
	"testing"

	"espalier/api"
	"espalier/plate"
	"espalier/store"
)

func engines() []int { return []int{api.Plain, api.Packed} }

// chance is the same row of numbers in every run.
func chance(seed int64) *rand.Rand { return rand.New(rand.NewSource(seed)) }

// long is a text of n bytes that are not all alike, so that bytes out of place show; which is another one for each mark.
func long(n int, mark byte) string {
	b := make([]byte, n)
	for i := range b {
		b[i] = mark + byte(i) + byte(i/251)
	}
	return string(b)
}

func same[T comparable](t *testing.T, what string, got, want T) {
	if got != want {
		t.Helper()
		t.Errorf("%s: %.300s, want %.300s", what, fmt.Sprint(got), fmt.Sprint(want))
	}
}

// brief is the beginning of a list, for whole ones are too long to print.
func brief[T any](l []T) string {
	if len(l) > 30 {
		return fmt.Sprintf("%.2000s and so on, %d in all", fmt.Sprint(l[:30]), len(l))
	}
	return fmt.Sprintf("%.2000s", fmt.Sprint(l))
}

func sameList[T comparable](t *testing.T, what string, got, want []T) {
	if !slices.Equal(got, want) {
		t.Helper()
		t.Errorf("%s: %s, want %s", what, brief(got), brief(want))
	}
}

func must(t *testing.T, what string, e api.Errno) {
	if e != api.OK {
		t.Helper()
		t.Fatalf("%s: %d", what, e)
	}
}

// pair is a pair as texts.
type pair struct{ key, value string }

func (p pair) String() string { return fmt.Sprintf("%.20q=%.20q(%d)", p.key, p.value, len(p.value)) }

func asPair(p api.Pair) pair { return pair{string(p.Key), string(p.Value)} }

func asPairs(l []api.Pair) []pair {
	var out []pair
	for _, p := range l {
		out = append(out, asPair(p))
	}
	return out
}

func raw(l ...pair) []api.Pair {
	var out []api.Pair
	for _, p := range l {
		out = append(out, api.Pair{Key: []byte(p.key), Value: []byte(p.value)})
	}
	return out
}

// numbered is n pairs whose keys rise, with values of that length each.
func numbered(n, length int) []pair {
	var l []pair
	for i := range n {
		l = append(l, pair{fmt.Sprintf("k%05d", i), long(length, byte(i))})
	}
	return l
}

// state is what a store must have: sorted maps by names.
type state map[string]map[string]string

func (w state) copied() state {
	c := state{}
	for name, m := range w {
		c[name] = maps.Clone(m)
	}
	return c
}

func (w state) names() []string { return slices.Sorted(maps.Keys(w)) }

// rising is the pairs of a tree.
func (w state) rising(name string) []pair {
	var l []pair
	for _, key := range slices.Sorted(maps.Keys(w[name])) {
		l = append(l, pair{key, w[name][key]})
	}
	return l
}

func (w state) has(name string) bool {
	_, is := w[name]
	return is
}

func (w state) equal(o state) bool {
	return maps.EqualFunc(w, o, func(a, b map[string]string) bool { return maps.Equal(a, b) })
}

// within is the pairs from lo on, ahead of hi (empty: all of these), or the other way round, the first limit of them.
func within(l []pair, lo, hi string, limit int, reverse bool) []pair {
	var out []pair
	for _, p := range l {
		if p.key >= lo && (hi == "" || p.key < hi) {
			out = append(out, p)
		}
	}
	if reverse {
		slices.Reverse(out)
	}
	return out[:min(limit, len(out))]
}

// isName is the words of chapter 15.
func isName(name string) bool {
	return len(name) >= 1 && len(name) <= 64 && strings.Trim(name, "abcdefghijklmnopqrstuvwxyz0123456789-_./") == ""
}

// opened is a store on a device that must take it.
func opened(t *testing.T, p *plate.Plate, engine int) *store.Store {
	t.Helper()
	s, e := store.Open(p, engine)
	if e != api.OK || s == nil {
		t.Fatalf("Open: %v, %d", s, e)
	}
	return s
}

// rig is a store beside the maps that it must answer as.
type rig struct {
	t         *testing.T
	what      string
	engine    int
	p         *plate.Plate
	s         *store.Store
	most      int   // bytes of a key
	committed state // of the last commit
	working   state // nil: no transaction is open
	txn       int
	tight     bool // ErrFull may come: then nothing has changed
	refusals  int  // how often it came
	meter     meter
}

func newRig(t *testing.T, engine, size, pages int) *rig {
	t.Helper()
	p := plate.New(size, pages)
	if p == nil {
		t.Fatalf("no device of %d pages of %d bytes", pages, size)
	}
	r := &rig{t: t, engine: engine, p: p, most: size / 8, committed: state{}, meter: meter{size: size}}
	r.what = fmt.Sprintf("engine %d, %d pages of %d bytes", engine, pages, size)
	r.s = opened(t, p, engine)
	return r
}

// now is the state that questions are about.
func (r *rig) now() state {
	if r.working != nil {
		return r.working
	}
	return r.committed
}

func (r *rig) is(what string, got, want any) {
	if got != want {
		r.t.Helper()
		r.t.Fatalf("%s: %s: %v, want %v", r.what, what, got, want)
	}
}

// begin, commit and rollback are calls that must be answered.
func (r *rig) begin() {
	r.t.Helper()
	r.is("Begin", r.s.Begin(), api.OK)
	r.working = r.committed.copied()
	r.measure()
}

func (r *rig) commit() {
	r.t.Helper()
	n, e := r.s.Commit()
	if r.full(e) {
		r.is("Commit refused", n, 0)
		return
	}
	r.is("Commit", e, api.OK)
	r.is("Commit", n, r.txn+1)
	r.txn++
	r.committed, r.working = r.working, nil
	r.is("Txn", r.s.Txn(), r.txn)
	r.measure()
}

func (r *rig) rollback() {
	r.t.Helper()
	r.is("Rollback", r.s.Rollback(), api.OK)
	r.working = nil
	r.measure()
}

// full tells whether a call was refused for want of pages, where that may be.
func (r *rig) full(e api.Errno) bool {
	if !r.tight || e != api.ErrFull {
		return false
	}
	r.refusals++
	return true
}

// make and the following are changes in a transaction; what is to be answered is told by the maps.
func (r *rig) make(name string) {
	r.t.Helper()
	want := api.OK
	switch {
	case !isName(name):
		want = api.ErrName
	case r.working.has(name):
		want = api.ErrThere
	case len(r.working) == api.MaxTrees:
		want = api.ErrTrees
	}
	e := r.s.Make(name)
	if want == api.OK && r.full(e) {
		return
	}
	r.is("Make "+name, e, want)
	if want == api.OK {
		r.working[name] = map[string]string{}
	}
	r.measure()
}

func (r *rig) drop(name string) {
	r.t.Helper()
	want := api.ErrNoTree
	if r.working.has(name) {
		want = api.OK
	}
	e := r.s.Drop(name)
	if want == api.OK && r.full(e) {
		return
	}
	r.is("Drop "+name, e, want)
	delete(r.working, name)
	r.measure()
}

func (r *rig) isKey(key string) bool { return len(key) >= 1 && len(key) <= r.most }

func isValue(value string) bool { return len(value) <= api.MaxValue }

func (r *rig) put(name, key, value string) {
	r.t.Helper()
	_, was := r.working[name][key]
	want := api.OK
	switch {
	case !r.working.has(name):
		want = api.ErrNoTree
	case !r.isKey(key) || !isValue(value):
		want = api.ErrSize
	}
	if want == api.OK {
		r.meter.handIn(value)
	}
	old, e := r.s.Put(name, []byte(key), []byte(value))
	if want == api.OK && r.full(e) {
		r.is("Put refused", old, false)
		return
	}
	r.is(fmt.Sprintf("Put %s %.20q, %d bytes", name, key, len(value)), e, want)
	r.is("Put: one stood there", old, was && want == api.OK)
	if want == api.OK {
		r.working[name][key] = value
	}
	r.measure()
}

func (r *rig) delete(name, key string) {
	r.t.Helper()
	_, was := r.working[name][key]
	want := api.OK
	switch {
	case !r.working.has(name):
		want = api.ErrNoTree
	case !r.isKey(key):
		want = api.ErrSize
	}
	old, e := r.s.Delete(name, []byte(key))
	if was && r.full(e) {
		r.is("Delete refused", old, false)
		return
	}
	r.is(fmt.Sprintf("Delete %s %.20q", name, key), e, want)
	r.is("Delete: one stood there", old, was && want == api.OK)
	delete(r.working[name], key)
	r.measure()
}

// loadErr is what a Load of these pairs is refused with.
func (r *rig) loadErr(name string, l []pair) api.Errno {
	if !r.working.has(name) {
		return api.ErrNoTree
	}
	for i, p := range l {
		if !r.isKey(p.key) || !isValue(p.value) {
			return api.ErrSize
		}
		if i > 0 && l[i-1].key >= p.key {
			return api.ErrSorted
		}
	}
	return api.OK
}

func (r *rig) load(name string, l ...pair) {
	r.t.Helper()
	want := r.loadErr(name, l)
	next := r.working.copied()
	if want == api.OK {
		r.measureLoad(l)
		next[name] = map[string]string{}
		for _, p := range l {
			next[name][p.key] = p.value
		}
	}
	n, e := r.s.Load(name, raw(l...))
	if want == api.OK && r.full(e) {
		r.is("Load refused", n, 0)
		return
	}
	r.is(fmt.Sprintf("Load %s, %d pairs", name, len(l)), e, want)
	if want != api.OK {
		r.is("Load refused", n, 0)
		return
	}
	r.is("Load", n, len(l))
	r.working = next
	r.measure()
}

// looks asks for all that there is, and holds it against the maps.
func (r *rig) looks() {
	r.t.Helper()
	w := r.now()
	names, e := r.s.Names()
	r.is("Names", e, api.OK)
	sameList(r.t, r.what+": Names", names, w.names())
	for name := range w {
		r.looksAt(name)
	}
	for _, name := range []string{"", "none", "A", "a\x00", strings.Repeat("n", 300)} {
		if !w.has(name) {
			r.missing(name)
		}
	}
	if r.t.Failed() {
		r.t.FailNow()
	}
}

func (r *rig) looksAt(name string) {
	r.t.Helper()
	l := r.now().rising(name)
	n, e := r.s.Len(name)
	r.is("Len", e, api.OK)
	r.is("Len", n, len(l))
	for _, reverse := range []bool{false, true} {
		got, e := r.s.Scan(name, nil, nil, api.MaxLimit, reverse)
		r.is("Scan", e, api.OK)
		sameList(r.t, r.what+": Scan of "+name, asPairs(got), within(l, "", "", len(l), reverse))
	}
	for i, p := range l {
		if len(l) > 60 && i%7 != 0 {
			continue
		}
		v, is, e := r.s.Get(name, []byte(p.key))
		r.is("Get", e, api.OK)
		r.is("Get", is && string(v) == p.value, true)
		k, e := r.s.Rank(name, []byte(p.key))
		r.is("Rank", e, api.OK)
		r.is("Rank", k, i)
		at, is, e := r.s.At(name, i)
		r.is("At", e, api.OK)
		r.is("At", is && asPair(at) == p, true)
	}
	_, is, e := r.s.At(name, len(l))
	r.is("At behind the last", e, api.OK)
	r.is("At behind the last", is, false)
	v, is, e := r.s.Get(name, []byte("no such key"))
	r.is("Get of none", e, api.OK)
	r.is("Get of none", is || len(v) > 0, false)
}

// missing holds all questions to a tree that is not there against ErrNoTree and zero answers.
func (r *rig) missing(name string) {
	r.t.Helper()
	v, is, e := r.s.Get(name, []byte("k"))
	r.is("Get of no tree", e, api.ErrNoTree)
	r.is("Get of no tree", len(v) > 0 || is, false)
	l, e := r.s.Scan(name, nil, nil, 1, false)
	r.is("Scan of no tree", e, api.ErrNoTree)
	r.is("Scan of no tree", len(l), 0)
	n, e := r.s.Len(name)
	r.is("Len of no tree", e, api.ErrNoTree)
	r.is("Len of no tree", n, 0)
	n, e = r.s.Rank(name, []byte("k"))
	r.is("Rank of no tree", e, api.ErrNoTree)
	r.is("Rank of no tree", n, 0)
	p, is, e := r.s.At(name, 0)
	r.is("At of no tree", e, api.ErrNoTree)
	r.is("At of no tree", is || len(p.Key)+len(p.Value) > 0, false)
}

// settle commits, if need be, and holds the device against the maps.
func (r *rig) settle() {
	r.t.Helper()
	if r.working != nil {
		r.commit()
	}
	if r.working == nil {
		r.whole()
	}
}
