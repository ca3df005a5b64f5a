package node_test

import (
	"bytes"
	"testing"

	"espalier/api"
	"espalier/node"
	"espalier/packed"
	"espalier/plain"
)

// ownEncode and ownDecode are the engine's own.
func ownEncode(engine, kind int, cells []api.Cell, page int) ([]byte, api.Errno) {
	if engine == api.Plain {
		return plain.Encode(kind, cells, page)
	}
	return packed.Encode(kind, cells, page)
}

func ownDecode(engine int, b []byte) (int, []api.Cell, api.Errno) {
	if engine == api.Plain {
		return plain.Decode(b)
	}
	return packed.Decode(b)
}

// encodes holds Encode and Fits against the document's words and against the engine's own Encode.
func encodes(t *testing.T, what string, engine, kind int, cells []api.Cell, page int) {
	t.Helper()
	b, e := node.Encode(engine, kind, cells, page)
	want := wanted(engine, kind, cells, page)
	same(t, what+": Encode", e, want)
	same(t, what+": Fits", node.Fits(engine, kind, cells, page), want == api.OK)
	if isEngine(engine) {
		own, f := ownEncode(engine, kind, cells, page)
		same(t, what+": the engine's own Encode", e, f)
		sameBytes(t, what+": the engine's own bytes", b, own)
	}
	if want != api.OK {
		same(t, what+": bytes beside the error", len(b), 0)
		return
	}
	sameBytes(t, what+": Encode", b, laid(engine, kind, cells, page))
	reads(t, what, b, engine, kind, cells)
}

// decodes holds Decode and Open of any bytes against the Decode of the engine that their second byte names.
func decodes(t *testing.T, what string, b []byte) {
	t.Helper()
	if len(b) < 2 || !isEngine(int(b[1])) {
		corrupt(t, what, b)
		return
	}
	kind, cells, e := ownDecode(int(b[1]), b)
	if e != api.OK {
		same(t, what+": the engine's own Decode", e, api.ErrCorrupt)
		corrupt(t, what, b)
		return
	}
	reads(t, what, b, int(b[1]), kind, cells)
}

// badRows are rows of cells that no page has.
func badRows(kind, page int) [][]api.Cell {
	good := other(kind, "k")
	tooLong := other(kind, long(page/8+1))
	noKind, noPage := good, child("k", 1, 1)
	noKind.Kind = 0
	return [][]api.Cell{
		row(tooLong), row(noKind), row(noPage), row(api.Cell{}), row(value("k", long(page*3/16+1))), row(spill("k", 2, page*3/16)), row(tree("k", 0, 1)),
		row(good, good), row(other(kind, "l"), good), row(good, tooLong, good), row(other(kind, "l"), good, noKind), row(value("", "")), row(good, other(kind, "")),
	}
}

// P8.2: Encode of all that may be and may not be.
func TestEncode(t *testing.T) {
	for _, engine := range engines() {
		for _, kind := range kinds() {
			for _, page := range sizes() {
				what := named("Encode", engine, kind, page)
				for n := range 5 {
					encodes(t, what, engine, kind, rowOf(kind, n), page)
				}
				cells := someCells(kind, page)
				for i := range cells {
					encodes(t, what, engine, kind, cells[i:i+1], page)
				}
				encodes(t, what+", cells of all kinds", engine, kind, cells, page)
				encodes(t, what+", cells of the other kind", engine, kind, someCells(5-kind, page), page)
				for _, cells := range badRows(kind, page) {
					encodes(t, what+", cells that may not be", engine, kind, cells, page)
				}
			}
		}
	}
}

// P8.2, P8.4: engines, kinds and sizes that there are not; ErrEngine comes first, then ErrArg.
func TestEncodeOfWrongNumbers(t *testing.T) {
	wrong := row(value("b", ""), value("a", ""), value("", long(600)))
	for _, engine := range someEngines() {
		for _, kind := range someKinds() {
			for _, page := range someSizes() {
				encodes(t, named("no cells", engine, kind, page), engine, kind, nil, page)
				encodes(t, named("wrong cells", engine, kind, page), engine, kind, wrong, page)
			}
		}
	}
}

// P8.1, P8.2: a page with another engine's byte, with the old sum and with a right one.
func TestAnotherEnginesByte(t *testing.T) {
	for _, engine := range engines() {
		for _, kind := range kinds() {
			for _, page := range sizes() {
				for n := range 4 {
					b := laid(engine, kind, rowOf(kind, n), page)
					for to := range 256 {
						turned := bytes.Clone(b)
						turned[1] = byte(to)
						what := named("engine's byte", engine, kind, page, n, to)
						if to == engine {
							continue
						}
						corrupt(t, what, turned)
						if n == 0 && isEngine(to) {
							// A page without cells is laid alike by both, but for this byte.
							reads(t, what, summed(turned), to, kind, nil)
							continue
						}
						corrupt(t, what+", with a sum", summed(turned))
					}
				}
			}
		}
	}
}

// P8.1, P8.2: every byte changed, with the old sum and with a right one.
func TestEveryByteChanged(t *testing.T) {
	for _, engine := range engines() {
		for _, kind := range kinds() {
			b := laid(engine, kind, someCells(kind, 512), 512)
			for at := range b {
				everyChange(t, named("byte", engine, kind, 512, at), b, at)
			}
			for _, page := range sizes()[1:] {
				b := laid(engine, kind, someCells(kind, page), page)
				for at := 0; at < page; at += 1 + leftOut(at, page) {
					everyChange(t, named("byte", engine, kind, page, at), b, at)
				}
			}
		}
	}
}

// leftOut is how many bytes of a greater page are left out behind at: none near its ends, else a 32nd of the page.
func leftOut(at, page int) int {
	if at < 32 || at >= page-12 {
		return 0
	}
	return min(page/32, page-13-at)
}

func everyChange(t *testing.T, what string, b []byte, at int) {
	t.Helper()
	for _, by := range []byte{1, 3, 255} {
		turned := bytes.Clone(b)
		turned[at] ^= by
		corrupt(t, what, turned)
		if at < len(b)-4 {
			decodes(t, what+", with a sum", summed(turned))
		}
	}
}

// P8.1, P8.2: any bytes, with the head of a page.
func TestAnyBytes(t *testing.T) {
	r := chance()
	for step := range 4000 {
		b := make([]byte, 512)
		for range r.Intn(60) {
			b[r.Intn(508)] = byte(r.Intn(256))
		}
		b[0], b[1], b[2], b[3] = byte(r.Intn(6)), byte(r.Intn(4)), 0, byte(r.Intn(4))
		decodes(t, named("any bytes", step), b)
		decodes(t, named("any bytes with a sum", step), summed(b))
	}
}
