package cache_test

import (
	"bytes"
	"math/rand"
	"slices"
	"testing"

	"espalier/api"
	"espalier/cache"
	"espalier/plate"
)

// model does what the chapter's words say, one by one, over a device of its own: a plain list of pages, the one used longest ago first.
type model struct {
	p      *plate.Plate
	frames int
	row    []entry
	hits   int
	misses int
	went   int
}

type entry struct {
	n     int
	b     []byte
	dirty bool
	pins  int
}

func (m *model) find(n int) int {
	return slices.IndexFunc(m.row, func(x entry) bool { return x.n == n })
}

func (m *model) use(k int) *entry {
	x := m.row[k]
	m.row = append(slices.Delete(m.row, k, k+1), x)
	return &m.row[len(m.row)-1]
}

func (m *model) room() api.Errno {
	if len(m.row) < m.frames {
		return api.OK
	}
	k := slices.IndexFunc(m.row, func(x entry) bool { return x.pins == 0 })
	if k < 0 {
		return api.ErrPinned
	}
	if m.row[k].dirty {
		if e := m.p.Write(m.row[k].n, m.row[k].b); e != api.OK {
			return e
		}
	}
	m.row = slices.Delete(m.row, k, k+1)
	m.went++
	return api.OK
}

func (m *model) allPinned() bool {
	return len(m.row) == m.frames && m.state().Pinned == m.frames
}

func (m *model) get(n int) (*entry, api.Errno) {
	if k := m.find(n); k >= 0 {
		m.hits++
		return m.use(k), api.OK
	}
	if m.allPinned() {
		return nil, api.ErrPinned
	}
	b, e := m.p.Read(n)
	if e != api.OK {
		return nil, e
	}
	if e := m.room(); e != api.OK {
		return nil, e
	}
	m.misses++
	m.row = append(m.row, entry{n: n, b: b})
	return &m.row[len(m.row)-1], api.OK
}

func (m *model) put(n int, b []byte) api.Errno {
	if n < 0 || n >= m.p.Pages() {
		return api.ErrPage
	}
	if len(b) != m.p.Page() {
		return api.ErrSize
	}
	if k := m.find(n); k >= 0 {
		x := m.use(k)
		x.b, x.dirty = bytes.Clone(b), true
		return api.OK
	}
	if e := m.room(); e != api.OK {
		return e
	}
	m.row = append(m.row, entry{n: n, b: bytes.Clone(b), dirty: true})
	return api.OK
}

func (m *model) pin(n int) api.Errno {
	x, e := m.get(n)
	if e == api.OK {
		x.pins++
	}
	return e
}

func (m *model) unpin(n int) api.Errno {
	k := m.find(n)
	if k < 0 || m.row[k].pins == 0 {
		return api.ErrPin
	}
	m.row[k].pins--
	return api.OK
}

func (m *model) flush() api.Errno {
	for n := range m.p.Pages() {
		k := m.find(n)
		if k < 0 || !m.row[k].dirty {
			continue
		}
		if e := m.p.Write(n, m.row[k].b); e != api.OK {
			return e
		}
		m.row[k].dirty = false
	}
	return api.OK
}

func (m *model) drop(n int) api.Errno {
	k := m.find(n)
	if k < 0 {
		return api.OK
	}
	if m.row[k].pins > 0 {
		return api.ErrPinned
	}
	m.row = slices.Delete(m.row, k, k+1)
	return api.OK
}

func (m *model) state() api.CacheState {
	s := api.CacheState{Frames: m.frames, Held: len(m.row), Hits: m.hits, Misses: m.misses, Evicted: m.went}
	for _, x := range m.row {
		if x.dirty {
			s.Dirty++
		}
		if x.pins > 0 {
			s.Pinned++
		}
	}
	return s
}

// bothGet holds the answers of a Get against each other.
func bothGet(t *testing.T, c *cache.Cache, m *model, n int) {
	t.Helper()
	got, e := c.Get(n)
	x, want := m.get(n)
	same(t, "Get", e, want)
	if want == api.OK {
		sameBytes(t, "Get", got, x.b)
	} else {
		same(t, "bytes beside the error", len(got), 0)
	}
}

// power does the same to both devices: they fall, are armed, start, are written by somebody else, are synced.
func power(r *rand.Rand, p, q *plate.Plate) {
	f := api.Fall{Torn: r.Intn(4) - 2, At: r.Intn(514) - 1}
	for range r.Intn(4) {
		f.Keep = append(f.Keep, r.Intn(6))
	}
	kind, acts, n, b := r.Intn(6), r.Intn(5)-1, r.Intn(8), page(r.Intn(256))
	for _, x := range []*plate.Plate{p, q} {
		switch kind {
		case 0:
			x.Arm(acts, f)
		case 1:
			x.Crash(f)
		case 2:
			x.Write(n, b)
		case 3:
			x.Sync()
		default:
			x.Start()
		}
	}
}

// step does one call on both, and holds what they answer against each other.
func step(t *testing.T, r *rand.Rand, c *cache.Cache, m *model, p *plate.Plate) {
	t.Helper()
	n := r.Intn(8)
	if r.Intn(12) == 0 {
		n = []int{-1, 8, 9}[r.Intn(3)]
	}
	switch r.Intn(20) {
	case 0, 1, 2, 3, 4:
		bothGet(t, c, m, n)
	case 5, 6, 7, 8, 9:
		b := page(r.Intn(256))[:512-r.Intn(12)/11]
		same(t, "Put", c.Put(n, b), m.put(n, b))
	case 10, 11:
		same(t, "Pin", c.Pin(n), m.pin(n))
	case 12, 13, 14:
		same(t, "Unpin", c.Unpin(n), m.unpin(n))
	case 15:
		same(t, "Flush", c.Flush(), m.flush())
	case 16:
		same(t, "Drop", c.Drop(n), m.drop(n))
	default:
		power(r, p, m.p)
	}
}

// P4.1 to P4.9: a cache and the model answer the same, and ask their devices the same, whatever comes in whatever order.
func TestAgainstTheModel(t *testing.T) {
	r := chance()
	var seen api.CacheState
	for run := range 150 {
		frames := 1 + run%6
		p, c := both(t, 8, frames)
		m := &model{p: device(t, 8), frames: frames}
		for range 150 {
			step(t, r, c, m, p)
			s := c.State()
			same(t, "State", s, m.state())
			same(t, "Counts", p.Counts(), m.p.Counts())
			same(t, "Up", p.Up(), m.p.Up())
			same(t, "Loose", p.Loose(), m.p.Loose())
			sameBytes(t, "Image", p.Image(), m.p.Image())
			sameBytes(t, "Safe", p.Safe(), m.p.Safe())
			if s.Held > frames || t.Failed() {
				t.Fatalf("run %d: %+v", run, s)
			}
		}
		s := c.State()
		seen.Hits, seen.Misses, seen.Evicted = seen.Hits+s.Hits, seen.Misses+s.Misses, seen.Evicted+s.Evicted
	}
	if seen.Hits < 1000 || seen.Misses < 1000 || seen.Evicted < 1000 {
		t.Errorf("too little came: %+v", seen)
	}
}
