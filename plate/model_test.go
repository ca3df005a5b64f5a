package plate_test

import (
	"bytes"
	"math/rand"
	"slices"
	"testing"

	"espalier/api"
	"espalier/plate"
)

// model does what the chapter's words say, one by one, with no thought of speed: it looks through all loose writes for each answer.
type model struct {
	safe   [4][]byte
	loose  []loose
	up     bool
	armed  bool
	acts   int
	f      api.Fall
	counts api.Counts
}

type loose struct {
	page  int
	bytes []byte
}

func (m *model) seen(n int) []byte {
	for _, w := range slices.Backward(m.loose) {
		if w.page == n {
			return w.bytes
		}
	}
	return m.safe[n]
}

func (m *model) image() []byte {
	return pages(m.seen(0), m.seen(1), m.seen(2), m.seen(3))
}

func (m *model) read(n int) ([]byte, api.Errno) {
	if !m.up {
		return nil, api.ErrDown
	}
	if n < 0 || n > 3 {
		return nil, api.ErrPage
	}
	m.counts.Reads++
	return m.seen(n), api.OK
}

func (m *model) write(n int, b []byte) api.Errno {
	if !m.up {
		return api.ErrDown
	}
	if n < 0 || n > 3 {
		return api.ErrPage
	}
	if len(b) != 512 {
		return api.ErrSize
	}
	m.counts.Writes++
	m.loose = append(m.loose, loose{n, b})
	return m.act()
}

func (m *model) sync() api.Errno {
	if !m.up {
		return api.ErrDown
	}
	m.counts.Syncs++
	if e := m.act(); e != api.OK {
		return e
	}
	for n := range 4 {
		m.safe[n] = m.seen(n)
	}
	m.loose = nil
	return api.OK
}

func (m *model) act() api.Errno {
	if m.armed && m.acts == 0 {
		m.crash(m.f)
		return api.ErrDown
	}
	m.acts--
	return api.OK
}

func (m *model) arm(acts int, f api.Fall) {
	if m.up {
		m.armed, m.acts, m.f = acts >= 0, acts, f
	}
}

func (m *model) crash(f api.Fall) {
	if !m.up {
		return
	}
	for k, w := range m.loose {
		at := 0
		if k == f.Torn {
			at = f.At
		} else if slices.Contains(f.Keep, k) {
			at = 512
		}
		b := bytes.Clone(m.safe[w.page])
		for i := 0; i < at && i < 512; i++ {
			b[i] = w.bytes[i]
		}
		m.safe[w.page] = b
	}
	m.loose, m.up, m.armed = nil, false, false
}

func (m *model) start() { m.up = true }

// someFall has numbers of loose writes and of none, doubled, in any order.
func someFall(r *rand.Rand) api.Fall {
	f := api.Fall{Torn: r.Intn(8) - 2, At: []int{-1, 0, 1, 2, 300, 511, 512, 513}[r.Intn(8)]}
	for range r.Intn(8) {
		f.Keep = append(f.Keep, r.Intn(10)-2)
	}
	return f
}

// step does one call on both, and holds what they answer against each other.
func step(t *testing.T, r *rand.Rand, p *plate.Plate, m *model) {
	t.Helper()
	n, f := r.Intn(6)-1, someFall(r)
	switch r.Intn(12) {
	case 0, 1:
		got, e := p.Read(n)
		want, e2 := m.read(n)
		same(t, "Read", e, e2)
		sameBytes(t, "Read", got, want)
	case 2, 3, 4, 5, 6:
		b := page(byte(r.Intn(256)), byte(r.Intn(256)), byte(r.Intn(256)))[:512-r.Intn(12)/11]
		same(t, "Write", p.Write(n, b), m.write(n, b))
	case 7:
		same(t, "Sync", p.Sync(), m.sync())
	case 8:
		acts := r.Intn(8) - 1
		p.Arm(acts, f)
		m.arm(acts, f)
	case 9:
		if r.Intn(3) == 0 {
			p.Crash(f)
			m.crash(f)
		}
	default:
		p.Start()
		m.start()
	}
}

// P3.1 to P3.9: a device and the model answer the same, whatever comes in whatever order.
func TestAgainstTheModel(t *testing.T) {
	r := chance()
	falls := 0
	for range 150 {
		p, m := made(t), &model{safe: [4][]byte{zero, zero, zero, zero}, up: true}
		for range 120 {
			was := m.up
			step(t, r, p, m)
			if was && !m.up {
				falls++
			}
			stands(t, p, m.up, len(m.loose), pages(m.safe[:]...), m.image())
			same(t, "Counts", p.Counts(), m.counts)
			if t.Failed() {
				return
			}
		}
	}
	if falls < 500 {
		t.Errorf("only %d falls came", falls)
	}
}
