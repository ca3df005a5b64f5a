package meta_test

import (
	"bytes"
	"testing"

	"espalier/api"
	"espalier/meta"
)

const spare = 64

// roomy lays b into memory of its own, with marked spare room behind it.
func roomy(b []byte) []byte {
	return append(bytes.Clone(b), bytes.Repeat([]byte{0xa5}, spare)...)[:len(b)]
}

// scribble writes over bytes and the spare room behind them.
func scribble(b []byte, with byte) {
	b = b[:cap(b)]
	for i := range b {
		b[i] = with
	}
}

func untouched(t *testing.T, what string, b, want []byte) {
	t.Helper()
	sameBytes(t, what+": what was handed in", b, want)
	sameBytes(t, what+": the spare room", b[len(b):len(b)+spare], bytes.Repeat([]byte{0xa5}, spare))
}

// R2: what Decode and Choose are handed is not changed, nor the spare room behind it.
func TestPagesHandedInStay(t *testing.T) {
	six, seven := page(t, with(6)), page(t, with(7))
	cut, long, wrong := seven[:511], append(page(t, with(7)), 0), page(t, with(7))
	wrong[3] = 1
	for what, b := range map[string][]byte{"six": six, "seven": seven, "cut": cut, "long": long, "wrong": wrong, "short": seven[:20], "nothing": nil} {
		mine := roomy(b)
		meta.Decode(mine)
		untouched(t, "Decode of "+what, mine, b)
		first, second := roomy(b), roomy(b)
		meta.Choose(first, second)
		untouched(t, "Choose of "+what, first, b)
		untouched(t, "Choose of "+what, second, b)
	}
	a, b := roomy(six), roomy(seven)
	picks(t, "6 and 7", a, b, with(7), 1)
	untouched(t, "Choose", a, six)
	untouched(t, "Choose", b, seven)
}

// R2: spare room behind a page is not read either.
func TestSpareRoomIsNotRead(t *testing.T) {
	whole := page(t, sample())
	refusesPage(t, "a page cut, the rest behind it", whole[:508])
	reads(t, "a page with more behind it", append(page(t, sample()), 1, 2, 3)[:512], sample())
}

// R2: what Encode answers shares no memory with another answer.
func TestAnswersAreNewMemory(t *testing.T) {
	var answers [][]byte
	for range 4 {
		answers = append(answers, page(t, sample()))
	}
	for i, b := range answers {
		scribble(b, byte(200+i))
	}
	for i, b := range answers {
		sameBytes(t, "an answer written over", b[:cap(b)], bytes.Repeat([]byte{byte(200 + i)}, cap(b)))
	}
	takes(t, "behind that", sample())
}

// R6: what was asked before does not show.
func TestAnswersHangOnArgumentsAlone(t *testing.T) {
	want := laid(sample(), 512)
	for _, m := range []api.Meta{with(6), empty(2, 65536), {}, sample()} {
		meta.Encode(m)
		meta.Check(m)
		meta.Decode(laid(m, 1024))
		meta.Choose(laid(m, 512), want)
		sameBytes(t, "Encode", page(t, sample()), want)
		reads(t, "Decode", want, sample())
	}
}
