package store_test

import (
	"bytes"
	"fmt"
	"slices"
	"testing"

	"espalier/api"
	"espalier/meta"
	"espalier/pager"
	"espalier/plate"
	"espalier/store"
)

// refusesOpen holds an Open against an error; the device stays as it is.
func refusesOpen(t *testing.T, what string, p *plate.Plate, engine int, want api.Errno) {
	t.Helper()
	var image []byte
	if p != nil {
		image = p.Image()
	}
	s, e := store.Open(p, engine)
	same(t, what, e, want)
	same(t, what+": a store", s == nil, true)
	if p != nil {
		same(t, what+": the device", bytes.Equal(p.Image(), image), true)
	}
}

// lived is a device with some commits, and what it has.
func lived(t *testing.T, engine, size int) *rig {
	t.Helper()
	r := newRig(t, engine, size, 300)
	r.begin()
	r.make("a")
	r.make("b/c")
	for _, p := range numbered(40, 30) {
		r.put("a", p.key, p.value)
	}
	r.put("b/c", "long", long(3000, 'l'))
	r.commit()
	r.begin()
	for _, p := range numbered(20, 30) {
		r.delete("a", p.key)
	}
	r.put("b/c", "long", long(1500, 'm'))
	r.commit()
	r.begin()
	r.make("empty")
	r.commit()
	return r
}

// relaid is the device with its pages 0 and 1 laid anew: of the last commit's meta, changed, and zeros.
func relaid(t *testing.T, p *plate.Plate, change func(m *api.Meta)) *plate.Plate {
	t.Helper()
	image, size := p.Image(), p.Page()
	m, _, e := meta.Choose(image[:size], image[size:2*size])
	must(t, "its meta", e)
	change(&m)
	b, e := meta.Encode(m)
	must(t, "a meta page", e)
	clear(image[:2*size])
	copy(image[meta.Slot(m.Txn)*size:], b)
	return loaded(t, image, size)
}

func loaded(t *testing.T, image []byte, size int) *plate.Plate {
	t.Helper()
	p, e := plate.Load(image, size)
	must(t, "Load of an image", e)
	return p
}

// P17.1: Open of nothing, of no engine, of a device that is down, and which of these comes first.
func TestOpenRefuses(t *testing.T) {
	for _, engine := range []int{api.Plain, api.Packed, 0, 7, -1} {
		refusesOpen(t, "no plate", nil, engine, api.ErrArg)
	}
	for _, engine := range []int{0, 3, 7, -1, 1 << 40} {
		p := plate.New(512, 10)
		refusesOpen(t, "no engine", p, engine, api.ErrEngine)
		p.Crash(api.Fall{})
		refusesOpen(t, "no engine, and down", p, engine, api.ErrEngine)
	}
	for _, engine := range engines() {
		p := plate.New(512, 10)
		p.Crash(api.Fall{})
		refusesOpen(t, "a new one that is down", p, engine, api.ErrDown)
		r := lived(t, engine, 512)
		r.p.Crash(api.Fall{})
		refusesOpen(t, "one with commits that is down", r.p, engine, api.ErrDown)
		r.p.Start()
		opened(t, r.p, engine)
	}
}

// P17.1: the errors of pager.Open are handed on, of devices that are none of such an engine.
func TestOpenOfNoStore(t *testing.T) {
	for _, engine := range engines() {
		other := api.Plain + api.Packed - engine
		r := lived(t, engine, 512)
		refusesOpen(t, "of the other engine", r.p, other, api.ErrFormat)
		p := plate.New(512, 10)
		opened(t, p, other)
		refusesOpen(t, "a new one of the other engine", p, engine, api.ErrFormat)
		image := r.p.Image()
		_, m, _ := surveyed(image, 512, engine)
		refusesOpen(t, "one with too few pages", loaded(t, image[:512*(m.High-1)], 512), engine, api.ErrFormat)
		opened(t, loaded(t, image[:512*m.High], 512), engine)
		zeros := bytes.Clone(image)
		clear(zeros[:1024])
		refusesOpen(t, "one without meta pages", loaded(t, zeros, 512), engine, api.ErrNoMeta)
		refusesOpen(t, "one with any bytes", loaded(t, []byte(long(8192, 3)), 512), engine, api.ErrNoMeta)
		refusesOpen(t, "one that lists too few", relaid(t, r.p, func(m *api.Meta) { m.Listed-- }), engine, api.ErrCorrupt)
		refusesOpen(t, "one whose root is its list", relaid(t, r.p, func(m *api.Meta) { m.Root, m.Free = m.Free, m.Root }), engine, api.ErrCorrupt)
		refusesOpen(t, "one of other pages", loaded(t, image, 1024), engine, openErr(t, loaded(t, image, 1024), engine))
	}
}

// openErr is what the pager says of a device.
func openErr(t *testing.T, p *plate.Plate, engine int) api.Errno {
	t.Helper()
	_, e := pager.Open(p, engine)
	same(t, "the pager refuses it", e != api.OK, true)
	return e
}

// P17.1: a device that is begun anew has no trees, and the last commit 0.
func TestOpenOfANewDevice(t *testing.T) {
	for _, engine := range engines() {
		for _, size := range []int{512, 4096, 65536} {
			p := plate.New(size, 4)
			s := opened(t, p, engine)
			same(t, "Txn", s.Txn(), 0)
			names, e := s.Names()
			same(t, "Names", e == api.OK && len(names) == 0, true)
			got, m, fault := surveyed(p.Safe(), size, engine)
			same(t, "what is safe", fault, "")
			same(t, "its meta", m, api.Meta{Engine: engine, Page: size, High: 2})
			same(t, "its trees", len(got), 0)
			again := opened(t, p, engine)
			same(t, "Txn of the second", again.Txn(), 0)
		}
	}
}

// P17.1: the power fails while a device is begun anew: Open answers ErrDown; behind a Start it is begun, or is to be begun.
func TestOpenInWhichThePowerFails(t *testing.T) {
	for _, engine := range engines() {
		for acts := range 2 {
			for _, f := range []api.Fall{{Torn: -1}, {Keep: []int{0}, Torn: -1}, {Torn: 0, At: 100}, {Torn: 0, At: 511}} {
				p := plate.New(512, 10)
				p.Arm(acts, f)
				s, e := store.Open(p, engine)
				same(t, "the power fails", s == nil && e == api.ErrDown, true)
				p.Start()
				s = opened(t, p, engine)
				names, e := s.Names()
				same(t, "begun anew", e == api.OK && len(names) == 0 && s.Txn() == 0, true)
			}
		}
	}
}

// P17.1: a device with commits is opened as its last commit, again and again, and goes on from there.
func TestOpenOfCommits(t *testing.T) {
	for _, engine := range engines() {
		for _, size := range []int{512, 2048} {
			r := lived(t, engine, size)
			for range 5 {
				image := r.p.Image()
				if r.txn%2 == 0 {
					r.is("Close", r.s.Close(), api.OK)
				}
				r.s = opened(t, r.p, engine)
				same(t, "nothing is written", bytes.Equal(image, r.p.Image()), true)
				r.is("Txn", r.s.Txn(), r.txn)
				r.looks()
				r.begin()
				r.put("a", fmt.Sprint("more ", r.txn), long(500, byte(r.txn)))
				r.drop("empty")
				r.make("empty")
				r.commit()
				r.whole()
			}
			r.p = loaded(t, r.p.Image(), size)
			r.s = opened(t, r.p, engine)
			r.looks()
		}
	}
}

// P17.1: Txn is the number of the last commit, whatever is under way, and of a closed store, too.
func TestTxn(t *testing.T) {
	for _, engine := range engines() {
		r := newRig(t, engine, 512, 60)
		var told []int
		note := func() { told = append(told, r.s.Txn()) }
		note()
		r.begin()
		r.make("a")
		note()
		r.commit()
		note()
		r.begin()
		note()
		r.rollback()
		note()
		r.begin()
		r.commit()
		note()
		r.p.Crash(api.Fall{})
		note()
		same(t, "Begin", r.s.Begin(), api.ErrDown)
		note()
		same(t, "Close", r.s.Close(), api.OK)
		note()
		same(t, "Close", r.s.Close(), api.ErrClosed)
		note()
		same(t, "Txn", slices.Equal(told, []int{0, 0, 1, 1, 1, 2, 2, 2, 2, 2}), true)
	}
}
