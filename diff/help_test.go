package diff_test

import (
	"fmt"
	"maps"
	"math/rand"
	"slices"
	"testing"

	"espalier/api"
	"espalier/check"
	"espalier/diff"
	"espalier/plate"
	"espalier/store"
)

func engines() []int { return []int{api.Plain, api.Packed} }

// chance is the same row of numbers in every run.
func chance(seed int64) *rand.Rand { return rand.New(rand.NewSource(seed)) }

// long is a text of n bytes that are not all alike; which is another one for each mark.
func long(n int, mark byte) string {
	b := make([]byte, n)
	for i := range b {
		b[i] = mark + byte(i) + byte(i/251)
	}
	return string(b)
}

func same[T comparable](t *testing.T, what string, got, want T) {
	if got != want {
		t.Helper()
		t.Errorf("%s: %.400s, want %.400s", what, fmt.Sprint(got), fmt.Sprint(want))
	}
}

// sameList holds lists against one another, and tells the first place where they part.
func sameList[T comparable](t *testing.T, what string, got, want []T) {
	if slices.Equal(got, want) {
		return
	}
	t.Helper()
	at := 0
	for at < len(got) && at < len(want) && got[at] == want[at] {
		at++
	}
	t.Errorf("%s: %d long, want %d; from %d on %.300s, want %.300s", what, len(got), len(want), at, fmt.Sprint(got[at:]), fmt.Sprint(want[at:]))
}

func must(t *testing.T, what string, errors ...api.Errno) {
	for _, e := range errors {
		if e != api.OK {
			t.Helper()
			t.Fatalf("%s: %d", what, e)
		}
	}
}

// none stands for what is not there.
const none = "-"

// ofTree is a change of a tree itself, ofPair one of a pair; none is what was not, or is not there.
func ofTree(name string, was, is bool) api.Change { return api.Change{Tree: name, Was: was, Is: is} }

func ofPair(name, key, old, new string) api.Change {
	c := api.Change{Tree: name, Key: []byte(key), Was: old != none, Is: new != none}
	if c.Was {
		c.Old = []byte(old)
	}
	if c.Is {
		c.New = []byte(new)
	}
	return c
}

// asText is a change, all that it has.
func asText(c api.Change) string {
	return fmt.Sprintf("%q/%q: %v %q to %v %q", c.Tree, c.Key, c.Was, c.Old, c.Is, c.New)
}

func asTexts(l []api.Change) []string {
	var out []string
	for _, c := range l {
		out = append(out, asText(c))
	}
	return out
}

// state is what a store must have: sorted maps by names.
type state map[string]map[string]string

func (w state) copied() state {
	c := state{}
	for name, m := range w {
		c[name] = maps.Clone(m)
	}
	return c
}

func (w state) has(name string) bool {
	_, is := w[name]
	return is
}

func (w state) names() []string { return slices.Sorted(maps.Keys(w)) }

// lines are the state as texts: each tree, each pair.
func (w state) lines() []string {
	var l []string
	for _, name := range w.names() {
		l = append(l, name)
		for _, key := range slices.Sorted(maps.Keys(w[name])) {
			l = append(l, fmt.Sprintf("%s/%q=%q", name, key, w[name][key]))
		}
	}
	return l
}

// differs is what differs from one state to another, by the chapter's words.
func differs(a, b state) []api.Change {
	var l []api.Change
	for _, name := range a.names() {
		if !b.has(name) {
			l = append(l, pairsDiffer(name, a[name], nil)...)
			l = append(l, ofTree(name, true, false))
		}
	}
	for _, name := range b.names() {
		if !a.has(name) {
			l = append(l, ofTree(name, false, true))
		}
		l = append(l, pairsDiffer(name, a[name], b[name])...)
	}
	return l
}

func pairsDiffer(name string, a, b map[string]string) []api.Change {
	keys := map[string]bool{}
	for key := range a {
		keys[key] = true
	}
	for key := range b {
		keys[key] = true
	}
	var l []api.Change
	for _, key := range slices.Sorted(maps.Keys(keys)) {
		old, was := a[key]
		new, is := b[key]
		if was && is && old == new {
			continue
		}
		c := api.Change{Tree: name, Key: []byte(key), Was: was, Is: is, Old: []byte(old), New: []byte(new)}
		l = append(l, c)
	}
	return l
}

// rig is a store beside the maps that it must answer as. A transaction is open always.
type rig struct {
	t       *testing.T
	p       *plate.Plate
	s       *store.Store
	working state
}

// point is a look at a commit, and what is known of that.
type point struct {
	v    *store.View
	has  state
	used []int // the pages of the look
}

func newRig(t *testing.T, engine, size, pages int) *rig {
	t.Helper()
	p := plate.New(size, pages)
	s, e := store.Open(p, engine)
	must(t, "Open", e)
	must(t, "Begin", s.Begin())
	return &rig{t, p, s, state{}}
}

func (r *rig) make(names ...string) *rig {
	r.t.Helper()
	for _, name := range names {
		must(r.t, "Make", r.s.Make(name))
		r.working[name] = map[string]string{}
	}
	return r
}

func (r *rig) drop(name string) *rig {
	r.t.Helper()
	must(r.t, "Drop", r.s.Drop(name))
	delete(r.working, name)
	return r
}

func (r *rig) put(name, key, value string) *rig {
	r.t.Helper()
	_, e := r.s.Put(name, []byte(key), []byte(value))
	must(r.t, "Put", e)
	r.working[name][key] = value
	return r
}

func (r *rig) delete(name, key string) *rig {
	r.t.Helper()
	_, e := r.s.Delete(name, []byte(key))
	must(r.t, "Delete", e)
	delete(r.working[name], key)
	return r
}

func (r *rig) load(name string, m map[string]string) *rig {
	r.t.Helper()
	var l []api.Pair
	for _, key := range slices.Sorted(maps.Keys(m)) {
		l = append(l, api.Pair{Key: []byte(key), Value: []byte(m[key])})
	}
	_, e := r.s.Load(name, l)
	must(r.t, "Load", e)
	r.working[name] = maps.Clone(m)
	return r
}

// apply carries changes out, all of them, which lead to that state.
func (r *rig) apply(what string, l []api.Change, to state) {
	r.t.Helper()
	n, e := diff.Apply(r.s, l)
	same(r.t, what+": Apply", fmt.Sprint(n, " ", e), fmt.Sprint(len(l), " ", api.OK))
	r.working = to.copied()
	r.stands(what)
}

// stands holds the working state against the maps.
func (r *rig) stands(what string) {
	r.t.Helper()
	names, e := r.s.Names()
	must(r.t, "Names", e)
	got := state{}
	for _, name := range names {
		l, e := r.s.Scan(name, nil, nil, api.MaxLimit, false)
		must(r.t, "Scan", e)
		got[name] = map[string]string{}
		for _, p := range l {
			got[name][string(p.Key)] = string(p.Value)
		}
	}
	sameList(r.t, what+": the store", got.lines(), r.working.lines())
}

// commit commits, looks at that, and begins anew.
func (r *rig) commit() point {
	r.t.Helper()
	_, e := r.s.Commit()
	must(r.t, "Commit", e)
	v, e := r.s.View()
	must(r.t, "View", e)
	used, _, _, e := check.Reach(r.p.Image(), r.p.Page())
	must(r.t, "Reach", e, r.s.Begin())
	return point{v, r.working.copied(), used}
}

// began is a look at commit 0.
func (r *rig) began() point {
	r.t.Helper()
	v, e := r.s.View()
	must(r.t, "View", e)
	return point{v, state{}, nil}
}

// apart is how many pages one of the two has alone.
func (a point) apart(b point) int {
	n := 0
	for _, page := range a.used {
		if !slices.Contains(b.used, page) {
			n++
		}
	}
	for _, page := range b.used {
		if !slices.Contains(a.used, page) {
			n++
		}
	}
	return n
}

// through is all that Between tells; the error at last, if there is one.
func through(t *testing.T, what string, a, b *store.View) ([]api.Change, api.Errno) {
	t.Helper()
	var l []api.Change
	last := api.OK
	for c, e := range diff.Between(a, b) {
		if last != api.OK {
			t.Errorf("%s: something behind error %d", what, last)
		}
		last = e
		if e != api.OK {
			same(t, what+": beside an error", asText(c), asText(api.Change{}))
			continue
		}
		l = append(l, c)
	}
	return l, last
}

// tells holds what Between and List tell, from one point to the other, against the maps and the pages.
func tells(t *testing.T, what string, a, b point) []api.Change {
	t.Helper()
	want := asTexts(differs(a.has, b.has))
	got, e := through(t, what, a.v, b.v)
	same(t, what+": Between", e, api.OK)
	sameList(t, what+": Between", asTexts(got), want)
	l, pages, e := diff.List(a.v, b.v)
	same(t, what+": List", e, api.OK)
	sameList(t, what+": List", asTexts(l), want)
	same(t, what+": pages", pages, a.apart(b))
	return l
}

// bothWays is tells from either side.
func bothWays(t *testing.T, what string, a, b point) {
	t.Helper()
	l := tells(t, what, a, b)
	back := tells(t, what+", back", b, a)
	same(t, what+": as many changes", len(back), len(l))
}

// numbered is n pairs, with values of that length each.
func numbered(n, length int) map[string]string {
	m := map[string]string{}
	for i := range n {
		m[fmt.Sprintf("k%05d", i)] = long(length, byte(i))
	}
	return m
}

// refused holds that a call answers nothing but that error.
func refused(t *testing.T, what string, a, b *store.View, want api.Errno) {
	t.Helper()
	told := 0
	for c, e := range diff.Between(a, b) {
		told++
		same(t, what+": Between", e, want)
		same(t, what+": beside it", asText(c), asText(api.Change{}))
	}
	same(t, what+": how much Between tells", told, 1)
	l, n, e := diff.List(a, b)
	same(t, what+": List", e, want)
	same(t, what+": beside it", fmt.Sprint(len(l), n), "0 0")
}
