package meta_test

import (
	"encoding/hex"
	"strings"
	"testing"

	"espalier/api"
	"espalier/meta"
)

const first40 = "01 01 00 00 45 53 50 4C 00 00 02 00 00 00 00 00 00 00 00 07 00 00 00 05 00 00 00 01 00 00 00 03 00 00 00 02 00 00 00 09"

// raw reads bytes as the document writes them: hexadecimal, with spaces between.
func raw(t *testing.T, text string) []byte {
	t.Helper()
	b, err := hex.DecodeString(strings.ReplaceAll(text, " ", ""))
	if err != nil {
		t.Fatal(err)
	}
	return b
}

// P5.1 to P5.3: the rows of the chapter's table, one behind the other.
func TestExamples(t *testing.T) {
	m := sample()
	b := page(t, m)
	sameBytes(t, "its first 40 bytes", b[:40], raw(t, first40))
	same(t, "its length", len(b), 512)
	reads(t, "m", b, m)

	refusesPage(t, "the first 511 bytes", b[:511])
	refusesPage(t, "a byte more", append(page(t, m), 0))
	odd := page(t, m)
	odd[2] = 1
	refusesPage(t, "a 1 in byte 2", summed(odd))

	for _, c := range []struct {
		name string
		n    int
	}{{"Page", 513}, {"Count", 0}, {"Root", 9}, {"Free", 5}, {"Listed", 8}, {"Free", 0}} {
		same(t, "Check with another "+c.name, meta.Check(but(t, m, c.name, c.n)), api.ErrArg)
	}
	same(t, "Check with Listed 0", meta.Check(but(t, m, "Listed", 0)), api.OK)

	six := page(t, with(6))
	picks(t, "6 and 7", six, b, m, 1)
	picks(t, "7 and 7", b, b, m, 1)
	picksNone(t, "nothing and 6", nil, six)

	same(t, "Slot(7)", meta.Slot(7), 1)
	same(t, "Slot(0)", meta.Slot(0), 0)
	same(t, "Slot(-1)", meta.Slot(-1), 1)
}

// DOC.md, the second example of the whole: the page of a new store.
func TestPageOfANewStore(t *testing.T) {
	for engine := 1; engine <= 2; engine++ {
		b := page(t, empty(engine, 512))
		want := make([]byte, 512)
		copy(want, raw(t, "01 00 00 00 45 53 50 4C 00 00 02 00"))
		want[1] = byte(engine)
		copy(want[36:], raw(t, "00 00 00 02"))
		sameBytes(t, "a new store", b, summed(want))
	}
}
