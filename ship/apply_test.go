package ship_test

import (
	"bytes"
	"fmt"
	"maps"
	"math/rand"
	"slices"
	"testing"

	"espalier/api"
	"espalier/meta"
	"espalier/plate"
	"espalier/ship"
)

// act is a write to a page, or (page below 0) a sync.
type act struct {
	page int
	data []byte
}

// twin is what a follower must do, by the chapter's words, on a device of its own.
type twin struct {
	p    *plate.Plate
	m    api.Meta
	is   bool // it has a commit
	down bool
}

// maybe tells whether a delta may be, and its meta.
func maybe(d api.Delta) (api.Meta, bool) {
	m, e := meta.Decode(d.Meta)
	is := e == api.OK && m.Engine == d.Engine && m.Page == d.Page && m.Txn == d.To && d.From >= 0 && d.From <= d.To
	last := 1
	for _, p := range d.Pages {
		is = is && p.Page > last && p.Page < m.High && len(p.Data) == d.Page
		last = p.Page
	}
	return m, is && !(d.From == d.To && d.From > 0 && len(d.Pages) > 0)
}

// acts is what must be done for a delta.
func (w *twin) acts(d api.Delta) (l []act) {
	sync := act{page: -1}
	zeros := make([]byte, w.p.Page())
	has, own := w.is, w.m.Txn%2
	if d.From == 0 {
		first := 0
		if has {
			first = 1 - own
		}
		l = append(l, act{first, zeros}, sync, act{1 - first, zeros}, sync)
		has = false
	}
	for _, p := range d.Pages {
		l = append(l, act{p.Page, p.Data})
	}
	l = append(l, sync)
	if has && own == d.To%2 {
		l = append(l, act{1 - own, d.Meta}, sync)
	}
	return append(l, act{d.To % 2, d.Meta}, sync)
}

// do does acts till the power fails.
func (w *twin) do(l []act) api.Errno {
	for _, a := range l {
		e := api.OK
		switch {
		case a.page < 0:
			e = w.p.Sync()
		default:
			e = w.p.Write(a.page, a.data)
		}
		if e != api.OK {
			return e
		}
	}
	return api.OK
}

func (w *twin) apply(d api.Delta) api.Errno {
	if w.down = w.down || !w.p.Up(); w.down {
		return api.ErrDown
	}
	m, is := maybe(d)
	switch {
	case !is || d.Page != w.p.Page():
		return api.ErrDelta
	case d.From > 0 && !(w.is && w.m.Txn == d.From && w.m.Engine == d.Engine):
		return api.ErrGap
	case m.High > w.p.Pages():
		return api.ErrFull
	case d.From == d.To && d.From > 0:
		return api.OK
	}
	if w.do(w.acts(d)) != api.OK {
		w.down = true
		return api.ErrDown
	}
	w.m, w.is = m, true
	return api.OK
}

// renew is NewFollower.
func (w *twin) renew() api.Errno {
	if !w.p.Up() {
		return api.ErrDown
	}
	m, mend, is := taken(w.p)
	if mend >= 0 {
		b, _ := meta.Encode(m)
		if w.do([]act{{mend, b}, {page: -1}}) != api.OK {
			return api.ErrDown
		}
	}
	w.m, w.is, w.down = m, is, false
	return api.OK
}

func sameDevice(t *testing.T, what string, got, want *plate.Plate) {
	t.Helper()
	same(t, what+": is up", got.Up(), want.Up())
	same(t, what+": loose", got.Loose(), want.Loose())
	same(t, what+": writes", got.Counts().Writes, want.Counts().Writes)
	same(t, what+": syncs", got.Counts().Syncs, want.Counts().Syncs)
	for _, x := range []struct{ a, b []byte }{{got.Image(), want.Image()}, {got.Safe(), want.Safe()}} {
		for n := range len(x.b) / want.Page() {
			at, end := n*want.Page(), (n+1)*want.Page()
			same(t, fmt.Sprint(what, ": page ", n), bytes.Equal(x.a[at:end], x.b[at:end]), true)
		}
	}
}

// pair is a follower beside its twin.
type pair struct {
	t *testing.T
	p *plate.Plate
	f *ship.Follower
	w *twin
}

func newPair(t *testing.T, image []byte, size int) *pair {
	t.Helper()
	w := &twin{p: loaded(t, image, size)}
	same(t, "renew", w.renew(), api.OK)
	p := loaded(t, image, size)
	return &pair{t, p, follow(t, p), w}
}

func (x *pair) arm(acts int, fall api.Fall) {
	x.p.Arm(acts, fall)
	x.w.p.Arm(acts, fall)
}

// apply does it on both sides, and tells the answer.
func (x *pair) apply(what string, d api.Delta) api.Errno {
	x.t.Helper()
	got, want := x.f.Apply(d), x.w.apply(d)
	same(x.t, what+": Apply", got, want)
	same(x.t, what+": At", x.f.At(), x.w.m.Txn)
	sameDevice(x.t, what, x.p, x.w.p)
	return want
}

// start starts both, and makes a new follower of each.
func (x *pair) start(what string) {
	x.t.Helper()
	x.p.Start()
	x.w.p.Start()
	f, e := ship.NewFollower(x.p)
	want := x.w.renew()
	same(x.t, what+": NewFollower", e, want)
	same(x.t, what+": a follower", f == nil, want != api.OK)
	sameDevice(x.t, what, x.p, x.w.p)
	if e != api.OK {
		x.start(what)
		return
	}
	x.f = f
	same(x.t, what+": At", f.At(), x.w.m.Txn)
}

func (x *pair) store(what string) {
	x.t.Helper()
	storeIs(x.t, what, x.f, x.p, x.w.m, x.w.is)
}

func drawnFall(x *rand.Rand, writes, size int) api.Fall {
	fall := api.Fall{Torn: -1}
	for i := range writes {
		if x.Intn(2) == 0 {
			fall.Keep = append(fall.Keep, i)
		}
	}
	if x.Intn(2) == 0 {
		fall.Torn, fall.At = x.Intn(writes+1), x.Intn(size+2)
	}
	return fall
}

// P23.4: of deltas that lead from nothing, to the next commit, to one whose meta page is the same, the acts one by one: wherever the power fails in them, and whatever stays, the device is as the words say, and the follower that is made of it then too.
func TestEachActOfApply(t *testing.T) {
	for _, engine := range engines() {
		t.Run(fmt.Sprint("engine ", engine), func(t *testing.T) {
			t.Parallel()
			x := chance(int64(engine))
			// The last one has nothing, but no zeros in its meta pages either.
			for _, before := range [][]int{{}, {0, 0}, {0, 1}, {0, 2}, {0, 6, 7}, {0, 3, 5}, {0, 4, 6}, nil} {
				image := imageAt(t, engine, before)
				if before == nil {
					copy(image, long(1024, 3))
				}
				at := 0
				if len(before) > 0 {
					at = before[len(before)-1]
				}
				for _, to := range []int{at, at + 1, at + 2, at + 3, at + 6} {
					for _, numbers := range [][]int{nil, {2}, {3, 7, 11}} {
						for _, from := range []int{0, at} {
							d := handmade(t, engine, 512, from, to, 20, numbers...)
							acts := 2 * (4 + len(numbers))
							for n := range acts {
								for i := range 4 {
									p := newPair(t, image, 512)
									fall := []api.Fall{{Torn: -1}, {Keep: []int{0, 1, 2, 3}, Torn: -1}, drawnFall(x, 4, 512), drawnFall(x, 4, 512)}[i]
									what := fmt.Sprint(before, ", then from ", from, " to ", to, " with ", len(numbers), " pages, ", n, " acts, ", fall)
									p.arm(n, fall)
									p.apply(what, d)
									p.arm(-1, fall)
									p.start(what)
								}
							}
						}
					}
				}
			}
		})
	}
}

// imageAt is a device on which a follower was led through commits.
func imageAt(t *testing.T, engine int, commits []int) []byte {
	t.Helper()
	p := plate.New(512, 24)
	f := follow(t, p)
	for i := 1; i < len(commits); i++ {
		must(t, "Apply", f.Apply(handmade(t, engine, 512, commits[i-1], commits[i], 20, 2+i, 9)))
	}
	return p.Image()
}

// P23.4: the acts by hand, told by what is read behind each of them: nothing of a row is written ahead of the sync of the one before it.
func TestActsByHand(t *testing.T) {
	image := imageAt(t, 1, []int{0, 5})
	old, d := handmade(t, 1, 512, 0, 5, 20), handmade(t, 1, 512, 5, 7, 20, 2, 4)
	all := handmade(t, 1, 512, 0, 7, 20, 2, 4)
	zeros := string(make([]byte, 512))
	before, behind := string(old.Meta), string(d.Meta)
	two, four := string(d.Pages[0].Data), string(d.Pages[1].Data)
	for _, x := range []struct {
		what  string
		d     api.Delta
		first string // page 0 at the beginning
		acts  []map[int]string
	}{
		{"from 5 to 7", d, zeros, []map[int]string{{2: two}, {4: four}, nil, {0: behind}, nil, {1: behind}, nil}},
		{"from nothing to 7", all, zeros, []map[int]string{{0: zeros}, nil, {1: zeros}, nil, {2: two}, {4: four}, nil, {1: behind}, nil}},
	} {
		want := map[int]string{0: x.first, 1: before, 2: zeros, 4: zeros}
		for n, a := range x.acts {
			p := loaded(t, image, 512)
			f := follow(t, p)
			// The act falls as a whole: what was loose stays.
			p.Arm(n, api.Fall{Keep: []int{0, 1, 2}, Torn: -1})
			same(t, x.what, f.Apply(x.d), api.ErrDown)
			maps.Copy(want, a)
			b := p.Safe()
			for _, page := range slices.Sorted(maps.Keys(want)) {
				same(t, fmt.Sprint(x.what, ", act ", n, ": page ", page), string(b[page*512:(page+1)*512]) == want[page], true)
			}
			wrote := 0
			for _, y := range x.acts[:n+1] {
				wrote += len(y)
			}
			same(t, fmt.Sprint(x.what, ", act ", n, ": writes"), p.Counts().Writes, wrote)
		}
		p := loaded(t, image, 512)
		f := follow(t, p)
		p.Arm(len(x.acts), api.Fall{Torn: -1})
		same(t, x.what+": as many acts as that", f.Apply(x.d), api.OK)
		same(t, "and no more", p.Up(), true)
	}
}

// P23.4: which error comes first; a refused one changes nothing.
func TestErrorsOfApply(t *testing.T) {
	for _, engine := range engines() {
		image := imageAt(t, engine, []int{0, 5})
		p := newPair(t, image, 512)
		refuse := func(what string, d api.Delta, want api.Errno) {
			t.Helper()
			same(t, what, p.apply(what, d), want)
			same(t, what+": the device", bytes.Equal(p.p.Safe(), image), true)
			same(t, what+": writes", p.p.Counts().Writes, 0)
			same(t, what+": syncs", p.p.Counts().Syncs, 0)
		}
		for what, d := range spoilt(t, engine) {
			refuse(what, d, api.ErrDelta)
		}
		refuse("of other pages, with a gap, and too long", handmade(t, engine, 1024, 3, 7, 99), api.ErrDelta)
		refuse("of other pages, from nothing", handmade(t, engine, 1024, 0, 7, 9), api.ErrDelta)
		refuse("of other pages, a still one", handmade(t, engine, 1024, 5, 5, 9), api.ErrDelta)
		refuse("a gap, and too long", handmade(t, engine, 512, 4, 7, 25), api.ErrGap)
		refuse("from a later one", handmade(t, engine, 512, 6, 7, 20), api.ErrGap)
		refuse("from an earlier one to it", handmade(t, engine, 512, 4, 5, 20), api.ErrGap)
		refuse("of the other engine", handmade(t, 3-engine, 512, 5, 6, 20), api.ErrGap)
		refuse("of the other engine, too long", handmade(t, 3-engine, 512, 5, 6, 25), api.ErrGap)
		refuse("a still one of another commit", handmade(t, engine, 512, 6, 6, 20), api.ErrGap)
		refuse("a still one of the other engine", handmade(t, 3-engine, 512, 5, 5, 20), api.ErrGap)
		refuse("too long", handmade(t, engine, 512, 5, 6, 25), api.ErrFull)
		refuse("too long, from nothing", handmade(t, engine, 512, 0, 6, 25), api.ErrFull)
		refuse("too long, a still one", handmade(t, engine, 512, 5, 5, 25), api.ErrFull)
		refuse("a still one", handmade(t, engine, 512, 5, 5, 24), api.OK)
		refuse("a still one of less", handmade(t, engine, 512, 5, 5, 2), api.OK)
		same(t, "as long as the device", p.apply("as long", handmade(t, engine, 512, 5, 6, 24, 23)), api.OK)

		q := newPair(t, plate.New(512, 24).Image(), 512)
		same(t, "a gap: it has nothing", q.apply("a gap", handmade(t, engine, 512, 1, 1, 9)), api.ErrGap)
		same(t, "commit 0", q.apply("commit 0", handmade(t, engine, 512, 0, 0, 9, 2)), api.OK)
		same(t, "a gap: it has commit 0", q.apply("a gap", handmade(t, engine, 512, 1, 2, 9)), api.ErrGap)
		same(t, "commit 0 once more", q.apply("commit 0", handmade(t, 3-engine, 512, 0, 0, 9, 3)), api.OK)
		storeIs(t, "commit 0 of the other engine", q.f, q.p, api.Meta{Engine: 3 - engine}, true)
	}
}

// pool is deltas of all kinds: of two stores, of hand, of other pages, spoilt.
func pool(t *testing.T, engine int, seed int64) (l []api.Delta) {
	t.Helper()
	x := chance(seed)
	for _, e := range []int{engine, engine, 3 - engine} {
		_, points := drawn(t, e, 512, 1200, x.Int63(), 4)
		for i, to := range points {
			l = append(l, take(t, nil, to))
			for _, from := range points[:i+1] {
				l = append(l, take(t, from, to), take(t, from, to))
			}
		}
	}
	for range 60 {
		from := x.Intn(5)
		to := from + x.Intn(4)
		numbers := []int{2 + x.Intn(4), 6 + x.Intn(4)}
		if from == to && from > 0 {
			numbers = nil
		}
		l = append(l, handmade(t, 1+x.Intn(2), 512, from, to, 12, numbers...))
	}
	for range 5 {
		l = append(l, handmade(t, engine, 512, x.Intn(2), 2, 1201, 2), handmade(t, engine, 1024, 0, 2, 20, 2))
	}
	l = append(l, api.Delta{})
	bad := spoilt(t, engine)
	for _, what := range slices.Sorted(maps.Keys(bad)) {
		if x.Intn(8) == 0 {
			l = append(l, bad[what])
		}
	}
	return l
}

// P23.3, P23.4, P23.5: drawn deltas, good and bad, of several stores, one behind the other, with a power that fails anywhere; the follower's device is held against the twin's behind each call.
func TestDrawnDeltasAgainstTheTwin(t *testing.T) {
	for _, engine := range engines() {
		for seed := range int64(3) {
			t.Run(fmt.Sprint("engine ", engine, ", seed ", seed), func(t *testing.T) {
				t.Parallel()
				x := chance(100*seed + int64(engine))
				deltas := pool(t, engine, seed)
				p := newPair(t, plate.New(512, 400+800*int(seed%2)).Image(), 512)
				seen := map[api.Errno]int{}
				for round := range 900 {
					what := fmt.Sprint("round ", round)
					d := deltas[x.Intn(len(deltas))]
					// Mostly one that goes on from what it has.
					for range 30 {
						if d.From == p.w.m.Txn {
							break
						}
						d = deltas[x.Intn(len(deltas))]
					}
					switch x.Intn(8) {
					case 0, 1:
						p.arm(x.Intn(len(d.Pages)+10), drawnFall(x, len(d.Pages)+1, 512))
					case 2:
						p.arm(-1, api.Fall{})
					case 3:
						if x.Intn(4) == 0 {
							fall := drawnFall(x, 2, 512)
							p.p.Crash(fall)
							p.w.p.Crash(fall)
						}
					}
					seen[p.apply(what, d)]++
					if round%10 == 0 && !p.w.down {
						p.store(what)
					}
					if !p.p.Up() && x.Intn(2) == 0 {
						if x.Intn(3) == 0 {
							p.p.Start()
							p.w.p.Start()
							seen[p.apply(what+", started", d)]++
						}
						p.start(what)
					}
				}
				same(t, fmt.Sprint(seen), seen[api.OK] > 100 && seen[api.ErrDown] > 50 && seen[api.ErrDelta] > 10 && seen[api.ErrGap] > 5 && seen[api.ErrFull] > 0, true)
			})
		}
	}
}
