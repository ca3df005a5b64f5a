package cache_test

import (
	"bytes"
	"testing"

	"espalier/api"
)

const spare = 64

// roomy lays b into memory of its own, with marked spare room behind it.
func roomy(b []byte) []byte {
	return append(bytes.Clone(b), bytes.Repeat([]byte{0xa5}, spare)...)[:len(b)]
}

// scribble writes over bytes and the spare room behind them.
func scribble(b []byte, with byte) {
	b = b[:cap(b)]
	for i := range b {
		b[i] = with
	}
}

func untouched(t *testing.T, what string, b, want []byte) {
	t.Helper()
	sameBytes(t, what+": what was handed in", b, want)
	sameBytes(t, what+": the spare room", b[len(b):len(b)+spare], bytes.Repeat([]byte{0xa5}, spare))
}

// P4.10, R2: what Put is handed is neither changed nor kept, of a page held or not.
func TestBytesHandedInStay(t *testing.T) {
	p, c := both(t, 8, 2)
	one, two, three := roomy(page(50)), roomy(page(51)), roomy(page(52))
	same(t, "Put", c.Put(1, one), api.OK)
	same(t, "Put of a held page", c.Put(1, two), api.OK)
	same(t, "Put", c.Put(2, three), api.OK)
	untouched(t, "Put", one, page(50))
	untouched(t, "Put of a held page", two, page(51))
	scribble(one, 0x77)
	scribble(two, 0x78)
	gets(t, c, 1, 51)
	puts(t, c, 1, 53, api.OK)
	sameBytes(t, "an old argument", two, bytes.Repeat([]byte{0x78}, 512))
	flushes(t, c, api.OK)
	untouched(t, "Flush", three, page(52))
	scribble(three, 0x79)
	gets(t, c, 2, 52)
	tells(t, p, 1, 53)
	tells(t, p, 2, 52)
	puts(t, c, 2, 54, api.OK)
	gets(t, c, 5, 6)
	gets(t, c, 6, 7)
	sameBytes(t, "an old argument", three, bytes.Repeat([]byte{0x79}, 512))
	tells(t, p, 2, 54)
}

// R2: bytes of a Put that is refused stay as well.
func TestBytesOfRefusedPutsStay(t *testing.T) {
	p, c := both(t, 8, 1)
	pins(t, c, 0, api.OK)
	short, long, good := roomy(page(1)[:511]), roomy(append(page(1), 9)), roomy(page(2))
	same(t, "Put", c.Put(1, short), api.ErrSize)
	same(t, "Put", c.Put(0, long), api.ErrSize)
	same(t, "Put", c.Put(1, good), api.ErrPinned)
	same(t, "Put", c.Put(8, good), api.ErrPage)
	unpins(t, c, 0, api.OK)
	puts(t, c, 0, 50, api.OK)
	p.Arm(0, api.Fall{})
	same(t, "Put", c.Put(1, good), api.ErrDown)
	untouched(t, "Put of too few", short, page(1)[:511])
	untouched(t, "Put of too many", long, append(page(1), 9))
	untouched(t, "Put", good, page(2))
}

// P4.10: what Get answers shares no memory with the cache, with the device, or with another answer.
func TestAnswersAreNewMemory(t *testing.T) {
	p, c := both(t, 8, 3)
	puts(t, c, 2, 52, api.OK)
	var answers [][]byte
	for range 3 {
		for n := range 3 { // 0 and 1: a miss, then hits; 2: what was put
			b, e := c.Get(n)
			same(t, "Get", e, api.OK)
			answers = append(answers, b)
		}
	}
	for i, a := range answers {
		scribble(a, byte(200+i))
	}
	for i, a := range answers {
		sameBytes(t, "an answer written over", a[:cap(a)], bytes.Repeat([]byte{byte(200 + i)}, cap(a)))
	}
	gets(t, c, 0, 1)
	gets(t, c, 1, 2)
	gets(t, c, 2, 52)
	sameBytes(t, "Image", p.Image(), device(t, 8).Image())
	flushes(t, c, api.OK)
	b, _ := c.Get(2)
	scribble(b, 99)
	tells(t, p, 2, 52)
	puts(t, c, 2, 62, api.OK)
	sameBytes(t, "an old answer", b, bytes.Repeat([]byte{99}, 512))
	gets(t, c, 5, 6)
	gets(t, c, 6, 7)
	gets(t, c, 7, 8)
	tells(t, p, 2, 62)
}

// P4.10: an answer stays as it was, whatever becomes of the page.
func TestAnswersStay(t *testing.T) {
	_, c := both(t, 8, 1)
	read, _ := c.Get(1)
	puts(t, c, 1, 50, api.OK)
	put, _ := c.Get(1)
	puts(t, c, 1, 60, api.OK)
	puts(t, c, 2, 70, api.OK)
	gets(t, c, 1, 60)
	drops(t, c, 1, api.OK)
	sameBytes(t, "what was read", read, page(2))
	sameBytes(t, "what was put", put, page(50))
}

// P4.10: a page that goes and the one that takes its frame share nothing.
func TestFramesShareNothing(t *testing.T) {
	p, c := both(t, 8, 2)
	mine := page(50)
	same(t, "Put", c.Put(0, mine), api.OK)
	same(t, "Put", c.Put(1, mine), api.OK)
	puts(t, c, 1, 51, api.OK)
	gets(t, c, 0, 50)
	puts(t, c, 2, 52, api.OK)
	puts(t, c, 3, 53, api.OK)
	tells(t, p, 1, 51)
	tells(t, p, 0, 50)
	gets(t, c, 2, 52)
}
