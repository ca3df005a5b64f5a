package ship_test

import (
	"bytes"
	"fmt"
	"maps"
	"math/rand"
	"slices"
	"testing"

	"espalier/api"
	"espalier/check"
	"espalier/meta"
	"espalier/plate"
	"espalier/ship"
	"espalier/store"
)

func engines() []int { return []int{api.Plain, api.Packed} }

// chance is the same row of numbers in every run.
func chance(seed int64) *rand.Rand { return rand.New(rand.NewSource(seed)) }

// long is a text of n bytes that are not all alike; which is another one for each mark.
func long(n int, mark byte) string {
	b := make([]byte, n)
	for i := range b {
		b[i] = mark + byte(i) + byte(i/251)
	}
	return string(b)
}

func same[T comparable](t *testing.T, what string, got, want T) {
	if got != want {
		t.Helper()
		t.Errorf("%s: %.400s, want %.400s", what, fmt.Sprint(got), fmt.Sprint(want))
	}
}

// sameList holds lists against one another, and tells the first place where they part.
func sameList[T comparable](t *testing.T, what string, got, want []T) {
	if slices.Equal(got, want) {
		return
	}
	t.Helper()
	at := 0
	for at < len(got) && at < len(want) && got[at] == want[at] {
		at++
	}
	t.Errorf("%s: %d long, want %d; from %d on %.300s, want %.300s", what, len(got), len(want), at, fmt.Sprint(got[at:]), fmt.Sprint(want[at:]))
}

func must(t *testing.T, what string, errors ...api.Errno) {
	for _, e := range errors {
		if e != api.OK {
			t.Helper()
			t.Fatalf("%s: %d", what, e)
		}
	}
}

// state is what a store must have: sorted maps by names.
type state map[string]map[string]string

func (w state) copied() state {
	c := state{}
	for name, m := range w {
		c[name] = maps.Clone(m)
	}
	return c
}

// lines are the state as texts: each tree, each pair.
func (w state) lines() []string {
	var l []string
	for _, name := range slices.Sorted(maps.Keys(w)) {
		l = append(l, name)
		for _, key := range slices.Sorted(maps.Keys(w[name])) {
			l = append(l, fmt.Sprintf("%s/%q=%q", name, key, w[name][key]))
		}
	}
	return l
}

// stateOf is what a store tells.
func stateOf(t *testing.T, s *store.Store) state {
	t.Helper()
	names, e := s.Names()
	must(t, "Names", e)
	w := state{}
	for _, name := range names {
		l, e := s.Scan(name, nil, nil, api.MaxLimit, false)
		must(t, "Scan", e)
		w[name] = map[string]string{}
		for _, p := range l {
			w[name][string(p.Key)] = string(p.Value)
		}
	}
	return w
}

// rig is a store beside the maps that it must answer as. A transaction is open always.
type rig struct {
	t       *testing.T
	p       *plate.Plate
	s       *store.Store
	working state
}

// point is a look at a commit, and what is known of that.
type point struct {
	v     *store.View
	has   state
	meta  string         // the meta page
	pages map[int]string // of the trees, the chains, the free list
}

func (a *point) txn() int { return a.v.Txn() }

func newRig(t *testing.T, engine, size, pages int) *rig {
	t.Helper()
	p := plate.New(size, pages)
	s, e := store.Open(p, engine)
	must(t, "Open", e)
	must(t, "Begin", s.Begin())
	return &rig{t, p, s, state{}}
}

func (r *rig) make(names ...string) *rig {
	r.t.Helper()
	for _, name := range names {
		must(r.t, "Make", r.s.Make(name))
		r.working[name] = map[string]string{}
	}
	return r
}

func (r *rig) drop(name string) *rig {
	r.t.Helper()
	must(r.t, "Drop", r.s.Drop(name))
	delete(r.working, name)
	return r
}

func (r *rig) put(name, key, value string) *rig {
	r.t.Helper()
	_, e := r.s.Put(name, []byte(key), []byte(value))
	must(r.t, "Put", e)
	r.working[name][key] = value
	return r
}

func (r *rig) delete(name, key string) *rig {
	r.t.Helper()
	_, e := r.s.Delete(name, []byte(key))
	must(r.t, "Delete", e)
	delete(r.working[name], key)
	return r
}

// fill puts n pairs, with values of that length each.
func (r *rig) fill(name string, n, length int) *rig {
	r.t.Helper()
	for i := range n {
		r.put(name, fmt.Sprintf("k%04d", i), long(length, byte(i)))
	}
	return r
}

// some does drawn changes.
func (r *rig) some(x *rand.Rand, changes int) *rig {
	r.t.Helper()
	names := []string{"a", "b", "c/d"}
	for range changes {
		name := names[x.Intn(len(names))]
		key := fmt.Sprintf("k%03d", x.Intn(150))
		if _, is := r.working[name]; !is {
			r.make(name)
			continue
		}
		switch x.Intn(40) {
		case 0:
			r.drop(name)
		case 1, 2:
			r.put(name, key, long(min(api.MaxValue, 100+x.Intn(4*r.p.Page())), byte(x.Intn(256))))
		case 3, 4, 5, 6, 7, 8, 9, 10:
			r.delete(name, key)
		default:
			r.put(name, key, long(x.Intn(60), byte(x.Intn(256))))
		}
	}
	return r
}

// commit commits, looks at that, and begins anew.
func (r *rig) commit() *point {
	r.t.Helper()
	_, e := r.s.Commit()
	must(r.t, "Commit", e)
	a := r.look(r.working.copied())
	must(r.t, "Begin", r.s.Begin())
	return a
}

// look is one at the last commit. What its pages are is known from the image, by the checker.
func (r *rig) look(has state) *point {
	r.t.Helper()
	v, e := r.s.View()
	must(r.t, "View", e)
	image, size := r.p.Image(), r.p.Page()
	used, listing, _, e := check.Reach(image, size)
	must(r.t, "Reach", e)
	at := func(n int) string { return string(image[n*size : (n+1)*size]) }
	a := &point{v: v, has: has, meta: at(v.Txn() % 2), pages: map[int]string{}}
	for _, n := range slices.Concat(used, listing) {
		a.pages[n] = at(n)
	}
	return a
}

// began is a look at commit 0.
func (r *rig) began() *point {
	r.t.Helper()
	return r.look(state{})
}

// drawn is a store, and looks at all of its commits, from 0 on.
func drawn(t *testing.T, engine, size, pages int, seed int64, commits int) (*rig, []*point) {
	t.Helper()
	r := newRig(t, engine, size, pages)
	x := chance(seed)
	l := []*point{r.began()}
	for i := range commits {
		n := x.Intn(60)
		if i == 0 {
			n = 200
		}
		l = append(l, r.some(x, n).commit())
	}
	return r, l
}

// delta is what Take must answer from one look (nil: from nothing) to another one, by the chapter's words.
func delta(from, to *point) api.Delta {
	m := to.v.Meta()
	d := api.Delta{Engine: m.Engine, Page: m.Page, To: to.txn(), Meta: []byte(to.meta)}
	if from != nil {
		d.From = from.txn()
	}
	for _, n := range slices.Sorted(maps.Keys(to.pages)) {
		if from != nil {
			if _, is := from.pages[n]; is {
				continue
			}
		}
		d.Pages = append(d.Pages, api.PageData{Page: n, Data: []byte(to.pages[n])})
	}
	return d
}

func sameDelta(t *testing.T, what string, got, want api.Delta) {
	t.Helper()
	head := func(d api.Delta) string {
		return fmt.Sprint("engine ", d.Engine, ", pages of ", d.Page, ", from ", d.From, " to ", d.To)
	}
	pages := func(d api.Delta) (l []string) {
		for _, p := range d.Pages {
			l = append(l, fmt.Sprintf("%d: %x", p.Page, p.Data))
		}
		return l
	}
	same(t, what, head(got), head(want))
	same(t, what+": the meta", string(got.Meta), string(want.Meta))
	sameList(t, what+": the pages", pages(got), pages(want))
}

// nowhere holds a delta beside an error to be none.
func nowhere(t *testing.T, what string, d api.Delta) {
	t.Helper()
	same(t, what+": beside the error", fmt.Sprint(d.Engine, d.Page, d.From, d.To, len(d.Pages), len(d.Meta)), "0 0 0 0 0 0")
}

// view of a point, also of none.
func viewOf(a *point) *store.View {
	if a == nil {
		return nil
	}
	return a.v
}

// take holds what Take answers against the words, and hands it on.
func take(t *testing.T, from, to *point) api.Delta {
	t.Helper()
	d, e := ship.Take(viewOf(from), to.v)
	must(t, "Take", e)
	sameDelta(t, fmt.Sprint("Take to ", to.txn()), d, delta(from, to))
	return d
}

func refuses(t *testing.T, what string, from, to *store.View, want api.Errno) {
	t.Helper()
	d, e := ship.Take(from, to)
	same(t, what, e, want)
	nowhere(t, what, d)
}

func follow(t *testing.T, p *plate.Plate) *ship.Follower {
	t.Helper()
	f, e := ship.NewFollower(p)
	must(t, "NewFollower", e)
	return f
}

// has holds a follower to have just that commit, by what its store tells, and by its bytes.
func has(t *testing.T, what string, f *ship.Follower, p *plate.Plate, a *point) {
	t.Helper()
	same(t, what+": At", f.At(), a.txn())
	s, e := f.Store()
	must(t, what+": Store", e)
	same(t, what+": its store's commit", s.Txn(), a.txn())
	sameList(t, what+": its store", stateOf(t, s).lines(), a.has.lines())
	for _, n := range slices.Sorted(maps.Keys(a.pages)) {
		b, e := p.Read(n)
		must(t, "Read", e)
		same(t, fmt.Sprint(what, ": page ", n), string(b), a.pages[n])
	}
	faults, e := check.Look(p.Image(), p.Page())
	must(t, "Look", e)
	same(t, what+": faults", len(faults), 0)
}

// hasNothing holds it to have none.
func hasNothing(t *testing.T, what string, f *ship.Follower) {
	t.Helper()
	same(t, what+": At", f.At(), 0)
	s, e := f.Store()
	same(t, what+": Store", e, api.ErrNoMeta)
	same(t, what+": beside the error", s == nil, true)
}

// isDown holds a follower to be down, whatever it is asked, and to tell that commit.
func isDown(t *testing.T, what string, f *ship.Follower, at int, l ...api.Delta) {
	t.Helper()
	for _, d := range append(l, api.Delta{}) {
		same(t, what+": Apply", f.Apply(d), api.ErrDown)
	}
	s, e := f.Store()
	same(t, what+": Store", e, api.ErrDown)
	same(t, what+": beside the error", s == nil, true)
	same(t, what+": At", f.At(), at)
}

// metaPage is one that chapter 5 lays out.
func metaPage(t *testing.T, m api.Meta) []byte {
	t.Helper()
	b, e := meta.Encode(m)
	must(t, "meta.Encode", e)
	return b
}

// lay writes pages, safe.
func lay(t *testing.T, p *plate.Plate, n int, b []byte) {
	t.Helper()
	must(t, "Write", p.Write(n, b), p.Sync())
}

// loaded is a device of its own, of those bytes.
func loaded(t *testing.T, image []byte, size int) *plate.Plate {
	t.Helper()
	p, e := plate.Load(image, size)
	must(t, "Load", e)
	return p
}

// copied is the same delta in memory of its own.
func copied(d api.Delta) api.Delta {
	d.Meta = bytes.Clone(d.Meta)
	d.Pages = slices.Clone(d.Pages)
	for i := range d.Pages {
		d.Pages[i].Data = bytes.Clone(d.Pages[i].Data)
	}
	return d
}

func eachSize(t *testing.T, do func(t *testing.T, engine, size, pages int)) {
	for _, engine := range engines() {
		for _, size := range []int{512, 1024, 65536} {
			t.Run(fmt.Sprint("engine ", engine, ", pages of ", size), func(t *testing.T) {
				t.Parallel()
				do(t, engine, size, min(1200, 120*65536/size))
			})
		}
	}
}
