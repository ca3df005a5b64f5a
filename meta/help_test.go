package meta_test

import (
	"bytes"
	"encoding/binary"
	"math/rand"
	"testing"

	"espalier/api"
	"espalier/ink"
	"espalier/meta"
)

// sample is the chapter's m.
func sample() api.Meta {
	return api.Meta{Engine: 1, Page: 512, Txn: 7, Root: 5, Count: 1, Free: 3, Listed: 2, High: 9}
}

// empty is the meta of a new store.
func empty(engine, page int) api.Meta { return api.Meta{Engine: engine, Page: page, High: 2} }

// with is the sample with another Txn.
func with(txn int) api.Meta {
	m := sample()
	m.Txn = txn
	return m
}

// setter sets one field of a meta.
type setter struct {
	name string
	set  func(m *api.Meta, n int)
}

func setters() []setter {
	return []setter{
		{"Engine", func(m *api.Meta, n int) { m.Engine = n }},
		{"Page", func(m *api.Meta, n int) { m.Page = n }},
		{"Txn", func(m *api.Meta, n int) { m.Txn = n }},
		{"Root", func(m *api.Meta, n int) { m.Root = n }},
		{"Count", func(m *api.Meta, n int) { m.Count = n }},
		{"Free", func(m *api.Meta, n int) { m.Free = n }},
		{"Listed", func(m *api.Meta, n int) { m.Listed = n }},
		{"High", func(m *api.Meta, n int) { m.High = n }},
	}
}

// but is a meta with one field, known by its name, set anew.
func but(t *testing.T, m api.Meta, name string, n int) api.Meta {
	t.Helper()
	for _, s := range setters() {
		if s.name == name {
			s.set(&m, n)
			return m
		}
	}
	t.Fatal("no field", name)
	return m
}

// laid is a page of size bytes as the chapter's table lays it, with a right sum, whether m is a meta or none.
func laid(m api.Meta, size int) []byte {
	b := []byte{1, byte(m.Engine), 0, 0, 'E', 'S', 'P', 'L'}
	b = binary.BigEndian.AppendUint32(b, uint32(m.Page))
	b = binary.BigEndian.AppendUint64(b, uint64(m.Txn))
	for _, n := range []int{m.Root, m.Count, m.Free, m.Listed, m.High} {
		b = binary.BigEndian.AppendUint32(b, uint32(n))
	}
	return summed(append(b, make([]byte, size-len(b))...))
}

// summed is a page with its last four bytes made right.
func summed(b []byte) []byte {
	b = bytes.Clone(b[:len(b)-4])
	return binary.BigEndian.AppendUint32(b, ink.Sum(b))
}

// page is what Encode writes.
func page(t *testing.T, m api.Meta) []byte {
	t.Helper()
	b, e := meta.Encode(m)
	if e != api.OK {
		t.Fatalf("Encode(%+v): %d", m, e)
	}
	return b
}

func same[T comparable](t *testing.T, what string, got, want T) {
	t.Helper()
	if got != want {
		t.Errorf("%s: %+v, want %+v", what, got, want)
	}
}

// sameBytes tells the first byte that differs, for whole pages are too long to print.
func sameBytes(t *testing.T, what string, got, want []byte) {
	t.Helper()
	if len(got) != len(want) {
		t.Errorf("%s: %d bytes, want %d", what, len(got), len(want))
		return
	}
	for i := range got {
		if got[i] != want[i] {
			t.Errorf("%s: byte %d is %d, want %d", what, i, got[i], want[i])
			return
		}
	}
}

// takes holds what Check, Encode and Decode do with a meta against what they should.
func takes(t *testing.T, what string, m api.Meta) {
	t.Helper()
	same(t, what+": Check", meta.Check(m), api.OK)
	b, e := meta.Encode(m)
	same(t, what+": Encode", e, api.OK)
	sameBytes(t, what+": Encode", b, laid(m, m.Page))
	reads(t, what, b, m)
}

// refuses tells that Check and Encode take m for no meta; and Decode the bytes that would be its page, where its numbers have room in one.
func refuses(t *testing.T, what string, m api.Meta) {
	t.Helper()
	same(t, what+": Check", meta.Check(m), api.ErrArg)
	b, e := meta.Encode(m)
	same(t, what+": Encode", e, api.ErrArg)
	same(t, what+": bytes beside the error", len(b), 0)
	size := 512
	if m.Page >= 44 && m.Page <= 1<<17 {
		size = m.Page
	}
	if b = laid(m, size); said(b) == m {
		refusesPage(t, what, b)
	}
}

// said are the numbers at their places, whatever the page.
func said(b []byte) api.Meta {
	number := func(at, width int) int {
		n := 0
		for _, c := range b[at : at+width] {
			n = n<<8 | int(c)
		}
		return n
	}
	return api.Meta{Engine: number(1, 1), Page: number(8, 4), Txn: number(12, 8), Root: number(20, 4), Count: number(24, 4), Free: number(28, 4), Listed: number(32, 4), High: number(36, 4)}
}

func reads(t *testing.T, what string, b []byte, want api.Meta) {
	t.Helper()
	m, e := meta.Decode(b)
	same(t, what+": Decode", e, api.OK)
	same(t, what+": Decode", m, want)
}

func refusesPage(t *testing.T, what string, b []byte) {
	t.Helper()
	m, e := meta.Decode(b)
	same(t, what+": Decode", e, api.ErrMeta)
	same(t, what+": Decode's meta", m, api.Meta{})
}

func picks(t *testing.T, what string, a, b []byte, want api.Meta, at int) {
	t.Helper()
	m, i, e := meta.Choose(a, b)
	same(t, what+": Choose", e, api.OK)
	same(t, what+": Choose", m, want)
	same(t, what+": Choose's place", i, at)
}

func picksNone(t *testing.T, what string, a, b []byte) {
	t.Helper()
	m, i, e := meta.Choose(a, b)
	same(t, what+": Choose", e, api.ErrNoMeta)
	same(t, what+": Choose's meta", m, api.Meta{})
	same(t, what+": Choose's place", i, 0)
}

// sizes are all that a page may have.
func sizes() []int { return []int{512, 1024, 2048, 4096, 8192, 16384, 32768, 65536} }

// chance is the same row of numbers in every run.
func chance() *rand.Rand { return rand.New(rand.NewSource(5)) }

// someMeta is any meta.
func someMeta(r *rand.Rand) api.Meta {
	m := api.Meta{Engine: 1 + r.Intn(2), Page: 512 << r.Intn(8), Txn: r.Intn(api.MaxTxn + 1), High: 2 + r.Intn(api.MaxPages-1)}
	if m.High > 2 && r.Intn(4) > 0 {
		m.Root, m.Count = 2+r.Intn(m.High-2), 1+r.Intn(api.MaxTrees)
	}
	if m.High > 3 && r.Intn(4) > 0 {
		m.Free, m.Listed = 2+r.Intn(m.High-2), r.Intn(m.High-1)
		if m.Free == m.Root {
			m.Free = 2 + (m.Free-1)%(m.High-2)
		}
	}
	return m
}
