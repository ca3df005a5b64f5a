package spill_test

import (
	"bytes"
	"testing"

	"espalier/api"
	"espalier/spill"
)

const spare = 64

// roomy lays b into memory of its own, with marked spare room behind it.
func roomy(b []byte) []byte {
	return append(bytes.Clone(b), bytes.Repeat([]byte{0xa5}, spare)...)[:len(b)]
}

// scribble writes over bytes and the spare room behind them.
func scribble(b []byte, with byte) {
	b = b[:cap(b)]
	for i := range b {
		b[i] = with
	}
}

func untouched(t *testing.T, what string, b, want []byte) {
	t.Helper()
	sameBytes(t, what+": what was handed in", b, want)
	sameBytes(t, what+": the spare room", b[len(b):len(b)+spare], bytes.Repeat([]byte{0xa5}, spare))
}

// open is a room that hands out its own memory and keeps what it is given, so that whoever shares it is seen.
type open struct {
	*api.Bench
	held map[int][]byte
}

func (o *open) Read(n int) ([]byte, api.Errno) {
	b, is := o.held[n]
	if !is {
		return nil, api.ErrPage
	}
	return b, api.OK
}

func (o *open) Write(n int, b []byte) api.Errno {
	o.held[n] = b
	return api.OK
}

func opened(t *testing.T) *open { return &open{bench(t, 512, 200), map[int][]byte{}} }

// R2: what Encode and Decode are handed is not changed, nor the spare room behind it, nor kept.
func TestWhatEncodeAndDecodeAreHanded(t *testing.T) {
	for _, n := range []int{0, 1, 9, 495, 496, 497} {
		mine := roomy(text(n))
		b, e := spill.Encode(7, mine, 512)
		untouched(t, "Encode", mine, text(n))
		scribble(mine, 0xee)
		if e != api.OK {
			continue
		}
		sameBytes(t, "Encode, written over", b, good(7, text(n), 512))
		page := roomy(b)
		_, data, _ := spill.Decode(page)
		untouched(t, "Decode", page, b)
		scribble(page, 0xee)
		sameBytes(t, "Decode, written over", data, text(n))
	}
	wrong := good(0, text(9), 512)
	wrong[100]++
	for _, b := range [][]byte{nil, {4}, wrong, wrong[:511], text(512)} {
		mine := roomy(b)
		spill.Decode(mine)
		untouched(t, "Decode", mine, b)
	}
}

// R2: no answer of Encode or Decode shares memory with another one, nor with what was handed in.
func TestWhatEncodeAndDecodeTellIsNewMemory(t *testing.T) {
	for _, n := range []int{1, 9, 496} {
		data := text(n)
		a, _ := spill.Encode(7, data, 512)
		b, _ := spill.Encode(7, data, 512)
		scribble(a, 0x11)
		sameBytes(t, "another answer", b, good(7, text(n), 512))
		sameBytes(t, "what was handed in", data, text(n))
		_, x, _ := spill.Decode(b)
		_, y, _ := spill.Decode(b)
		scribble(x, 0x22)
		sameBytes(t, "another answer", y, text(n))
		sameBytes(t, "what was handed in", b, good(7, text(n), 512))
	}
}

// R2: a value that is handed to Write is not changed, nor the spare room behind it, and may be written over afterwards.
func TestWhatWriteIsHanded(t *testing.T) {
	for _, n := range []int{0, 1, 496, 497, 3000, 65536, 65537} {
		o := opened(t)
		mine := roomy(text(n))
		first, e := spill.Write(o, mine)
		untouched(t, "Write", mine, text(n))
		scribble(mine, 0xee)
		if e == api.OK {
			b, e := spill.Read(o, first, n)
			same(t, "Read", e, api.OK)
			sameBytes(t, "Read of what was written over", b, text(n))
		}
	}
	for _, fail := range []int{0, 3, 7, 11} {
		w := watched(bench(t, 512, 20))
		w.fail = fail
		mine := roomy(text(3000))
		spill.Write(w, mine)
		untouched(t, "Write that is refused", mine, text(3000))
	}
}

// R2: no two pages that Write hands to the room share memory.
func TestPagesThatAreWrittenShareNothing(t *testing.T) {
	o := opened(t)
	spill.Write(o, text(3000))
	for i := range o.held {
		scribble(o.held[i], byte(i))
	}
	for i, b := range o.held {
		same(t, "a page written over", bytes.Count(b[:cap(b)], []byte{byte(i)}), cap(b))
	}
}

// R2: what Read, Slice and List tell shares no memory with the room's pages, nor with another answer.
func TestWhatIsToldIsNewMemory(t *testing.T) {
	for _, n := range []int{1, 496, 497, 3000} {
		o := opened(t)
		first, _ := spill.Write(o, text(n))
		for range 2 {
			a, _ := spill.Read(o, first, n)
			b, _ := spill.Read(o, first, n)
			scribble(a, 0x11)
			sameBytes(t, "Read told twice", b, text(n))
			scribble(b, 0x22)
			for _, from := range []int{0, 1, n / 2} {
				x, _ := spill.Slice(o, first, n, from, n)
				y, _ := spill.Slice(o, first, n, from, n)
				scribble(x, 0x33)
				sameBytes(t, "Slice told twice", y, text(n)[from:])
				scribble(y, 0x44)
			}
		}
		l, _ := spill.List(o, first, n)
		m, _ := spill.List(o, first, n)
		for i := range l[:cap(l)] {
			l[:cap(l)][i] = -1
		}
		same(t, "List told twice", m[0], first)
		b, e := spill.Read(o, first, n)
		same(t, "Read behind all", e, api.OK)
		sameBytes(t, "Read behind all", b, text(n))
	}
}

// R2: what was told stays, whatever is done to the room.
func TestWhatWasToldStays(t *testing.T) {
	o := opened(t)
	first, _ := spill.Write(o, text(900))
	b, _ := spill.Read(o, first, 900)
	s, _ := spill.Slice(o, first, 900, 3, 700)
	l, _ := spill.List(o, first, 900)
	for _, page := range o.held {
		scribble(page, 0x77)
	}
	sameBytes(t, "Read", b, text(900))
	sameBytes(t, "Slice", s, text(900)[3:700])
	sameList(t, "List", l, []int{2, 3})
}

// R6: what a call answers does not hang on calls before it, with other rooms.
func TestNothingIsKept(t *testing.T) {
	r, s := bench(t, 512, 20), bench(t, 1024, 20)
	chain(t, r, text(900), 4, 7)
	chain(t, s, text(1200), 4, 9)
	for range 3 {
		same(t, "the one", goes(t, "the one", r, 4, 900), api.OK)
		same(t, "the other", goes(t, "the other", s, 4, 1200), api.OK)
		same(t, "a wrong length", goes(t, "a wrong length", r, 4, 1200), api.ErrChain)
		same(t, "nothing there", goes(t, "nothing there", s, 5, 9), api.ErrPage)
	}
}
