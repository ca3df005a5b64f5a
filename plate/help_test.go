package plate_test

import (
	"bytes"
	"math/rand"
	"testing"

	"espalier/api"
	"espalier/plate"
)

// sheet is a page of size bytes that begins so, and goes on with the last of these.
func sheet(size int, l ...byte) []byte {
	b := make([]byte, size)
	for i := range b {
		b[i] = l[min(i, len(l)-1)]
	}
	return b
}

// page is a sheet of 512 bytes.
func page(l ...byte) []byte { return sheet(512, l...) }

// pages lays sheets one behind the other.
func pages(l ...[]byte) []byte { return bytes.Join(l, nil) }

// zero is a page that was never written.
var zero = page(0)

// made is a device of four pages of 512 bytes.
func made(t *testing.T) *plate.Plate {
	t.Helper()
	p := plate.New(512, 4)
	if p == nil {
		t.Fatal("New(512, 4) answers nil")
	}
	return p
}

func same[T comparable](t *testing.T, what string, got, want T) {
	t.Helper()
	if got != want {
		t.Errorf("%s: %v, want %v", what, got, want)
	}
}

// sameBytes tells the first byte that differs, for whole images are too long to print.
func sameBytes(t *testing.T, what string, got, want []byte) {
	t.Helper()
	if len(got) != len(want) {
		t.Errorf("%s: %d bytes, want %d", what, len(got), len(want))
		return
	}
	for i := range got {
		if got[i] != want[i] {
			t.Errorf("%s: byte %d is %d, want %d", what, i, got[i], want[i])
			return
		}
	}
}

func writes(t *testing.T, p *plate.Plate, n int, b []byte, want api.Errno) {
	t.Helper()
	same(t, "Write", p.Write(n, b), want)
}

func syncs(t *testing.T, p *plate.Plate, want api.Errno) {
	t.Helper()
	same(t, "Sync", p.Sync(), want)
}

// reads holds a page that may be read against what it should be.
func reads(t *testing.T, p *plate.Plate, n int, want []byte) {
	t.Helper()
	b, e := p.Read(n)
	same(t, "Read", e, api.OK)
	sameBytes(t, "Read", b, want)
}

func refusesRead(t *testing.T, p *plate.Plate, n int, want api.Errno) {
	t.Helper()
	b, e := p.Read(n)
	same(t, "Read", e, want)
	same(t, "bytes beside the error", len(b), 0)
}

// stands holds all that a device tells of itself, but its counts, against what it should be.
func stands(t *testing.T, p *plate.Plate, up bool, loose int, safe, image []byte) {
	t.Helper()
	same(t, "Up", p.Up(), up)
	same(t, "Loose", p.Loose(), loose)
	sameBytes(t, "Safe", p.Safe(), safe)
	sameBytes(t, "Image", p.Image(), image)
}

// fell holds a device that has fallen against what should be left.
func fell(t *testing.T, p *plate.Plate, left ...[]byte) {
	t.Helper()
	stands(t, p, false, 0, pages(left...), pages(left...))
}

func counted(t *testing.T, p *plate.Plate, reads, writes, syncs int) {
	t.Helper()
	same(t, "Counts", p.Counts(), api.Counts{Reads: reads, Writes: writes, Syncs: syncs})
}

// chance is the same row of numbers in every run.
func chance() *rand.Rand { return rand.New(rand.NewSource(3)) }
