package node_test

import (
	"testing"

	"espalier/api"
	"espalier/node"
	"espalier/packed"
	"espalier/plain"
)

// P8.1: which engines, kinds and page sizes may be; ErrEngine comes first; what stands beside an error equals nil.
func TestNew(t *testing.T) {
	for _, engine := range someEngines() {
		for _, kind := range someKinds() {
			for _, page := range someSizes() {
				newIsRight(t, engine, kind, page)
			}
		}
	}
}

func newIsRight(t *testing.T, engine, kind, page int) {
	t.Helper()
	what := named("New", engine, kind, page)
	n, e := node.New(engine, kind, page)
	want := wanted(engine, kind, nil, page)
	same(t, what, e, want)
	same(t, what+": nil", n == nil, want != api.OK)
	if want == api.OK && n != nil {
		stands(t, what, n, engine, kind, nil, page)
		same(t, what+": Used", n.Used(), size(engine, kind, nil))
	}
}

// P8.1: a node is a page of the engine that was asked for.
func TestNodesAreTheEnginesPages(t *testing.T) {
	for _, kind := range kinds() {
		for _, page := range sizes() {
			for _, n := range []node.Node{made(t, api.Plain, kind, page), opened(t, api.Plain, kind, page, rowOf(kind, 3)...)} {
				_, is := n.(*plain.Page)
				same(t, named("a plain.Page", kind, page), is, true)
			}
			for _, n := range []node.Node{made(t, api.Packed, kind, page), opened(t, api.Packed, kind, page, rowOf(kind, 3)...)} {
				_, is := n.(*packed.Page)
				same(t, named("a packed.Page", kind, page), is, true)
			}
		}
	}
}

// P8.1, P8.2: pages of both engines, without cells, with one of each kind, with three, with many.
func TestOpen(t *testing.T) {
	for _, engine := range engines() {
		for _, kind := range kinds() {
			for _, page := range sizes() {
				what := named("Open", engine, kind, page)
				for n := range 4 {
					reads(t, what, laid(engine, kind, rowOf(kind, n), page), engine, kind, rowOf(kind, n))
				}
				reads(t, what+", all kinds", laid(engine, kind, someCells(kind, page), page), engine, kind, someCells(kind, page))
				reads(t, what+", full", laid(engine, kind, many(engine, kind, page), page), engine, kind, many(engine, kind, page))
			}
		}
	}
}

// P8.1, P8.2: bytes that are too few, whatever they say.
func TestOpenOfFewBytes(t *testing.T) {
	corrupt(t, "nil", nil)
	corrupt(t, "none", []byte{})
	for a := range 256 {
		corrupt(t, named("one byte", a), []byte{byte(a)})
		for b := range 256 {
			corrupt(t, named("two bytes", a, b), []byte{byte(a), byte(b)})
		}
	}
	for _, engine := range engines() {
		b := laid(engine, api.PageLeaf, rowOf(api.PageLeaf, 3), 512)
		for n := range b {
			corrupt(t, named("cut", engine, n), b[:n])
			if n >= 4 {
				corrupt(t, named("cut, with a sum", engine, n), summed(b[:n]))
			}
		}
		corrupt(t, named("longer", engine), append(b, 0))
		corrupt(t, named("twice as long", engine), append(b, b...))
		corrupt(t, named("twice as long, with a sum", engine), summed(append(b, b...)))
	}
}

// P8.1, P8.2: zeros are no page, of whichever length.
func TestOpenOfZeros(t *testing.T) {
	for _, n := range []int{1, 2, 3, 4, 6, 8, 10, 511, 512, 513, 1000, 1024, 65536, 131072} {
		corrupt(t, named("zeros", n), make([]byte, n))
		if n >= 4 {
			corrupt(t, named("zeros with a sum", n), summed(make([]byte, n)))
		}
	}
}
