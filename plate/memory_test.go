package plate_test

import (
	"bytes"
	"slices"
	"testing"

	"espalier/api"
	"espalier/plate"
)

const spare = 64

// roomy lays b into memory of its own, with marked spare room behind it.
func roomy(b []byte) []byte {
	return append(bytes.Clone(b), bytes.Repeat([]byte{0xa5}, spare)...)[:len(b)]
}

// scribble writes over a list and the spare room behind it.
func scribble[T any](l []T, with T) {
	l = l[:cap(l)]
	for i := range l {
		l[i] = with
	}
}

func untouched(t *testing.T, what string, b, want []byte) {
	t.Helper()
	sameBytes(t, what+": what was handed in", b, want)
	sameBytes(t, what+": the spare room", b[len(b):len(b)+spare], bytes.Repeat([]byte{0xa5}, spare))
}

// R2: an image and a page that are handed in are neither changed nor kept.
func TestBytesHandedInStay(t *testing.T) {
	image := pages(page(1), page(2), page(3), page(4))
	given := roomy(image)
	p, _ := plate.Load(given, 512)
	mine := roomy(page(9, 8))
	writes(t, p, 1, mine, api.OK)
	reads(t, p, 1, page(9, 8))
	writes(t, p, 1, page(7), api.OK)
	syncs(t, p, api.OK)
	writes(t, p, 2, mine, api.OK)
	p.Arm(0, api.Fall{Keep: []int{0, 1}, Torn: -1})
	writes(t, p, 0, mine, api.ErrDown)
	untouched(t, "Load", given, image)
	untouched(t, "Write", mine, page(9, 8))

	p.Start()
	writes(t, p, 3, mine, api.OK)
	scribble(given, 0x77)
	scribble(mine, 0x77)
	want := pages(page(9, 8), page(7), page(9, 8), page(9, 8))
	sameBytes(t, "Image", p.Image(), want)
	reads(t, p, 3, page(9, 8))
	p.Crash(api.Fall{Keep: []int{0}, Torn: -1})
	sameBytes(t, "Safe", p.Safe(), want)
}

// R2: pages that are refused stay as well.
func TestBytesOfRefusedCallsStay(t *testing.T) {
	p := made(t)
	short := roomy(page(1)[:511])
	writes(t, p, 0, short, api.ErrSize)
	untouched(t, "Write", short, page(1)[:511])
	odd := roomy(make([]byte, 2049))
	plate.Load(odd, 512)
	untouched(t, "Load", odd, make([]byte, 2049))
	p.Crash(api.Fall{})
	whole := roomy(page(2))
	writes(t, p, 0, whole, api.ErrDown)
	untouched(t, "Write", whole, page(2))
}

// R2: a Fall's Keep is neither changed, nor sorted, nor kept by Arm.
func TestFallHandedInStays(t *testing.T) {
	for what, do := range map[string]func(p *plate.Plate, f api.Fall){
		"Arm": func(p *plate.Plate, f api.Fall) {
			p.Arm(1, f)
			writes(t, p, 3, page(40), api.OK)
			writes(t, p, 3, page(50), api.ErrDown)
		},
		"Crash": func(p *plate.Plate, f api.Fall) { p.Crash(f) },
	} {
		room := []int{2, -1, 0, 2, 99, 55, 55, 55}
		do(three(t), api.Fall{Keep: room[:5], Torn: 1, At: 2})
		if !slices.Equal(room, []int{2, -1, 0, 2, 99, 55, 55, 55}) {
			t.Errorf("%s: Keep is %v now", what, room)
		}
	}
}

// R2, P3.5: the fall is as it was when Arm was called, whatever is written over its Keep later.
func TestArmKeepsItsOwnFall(t *testing.T) {
	p := three(t)
	keep := []int{0, 99, 99}
	p.Arm(0, api.Fall{Keep: keep[:1], Torn: -1})
	scribble(keep, 1)
	syncs(t, p, api.ErrDown)
	fell(t, p, page(1), page(10), page(3), page(4))
}

// R2: what is answered shares no memory with the device, nor with another answer.
func TestAnswersAreNewMemory(t *testing.T) {
	p := three(t)
	seen := pages(page(1), page(30), page(20), page(4))
	safe := pages(page(1), page(2), page(3), page(4))
	for range 2 {
		var answers [][]byte
		for n := range 4 {
			one, _ := p.Read(n)
			two, _ := p.Read(n)
			answers = append(answers, one, two)
		}
		answers = append(answers, p.Image(), p.Image(), p.Safe(), p.Safe())
		for i, a := range answers {
			scribble(a, byte(200+i))
		}
		for i, a := range answers {
			sameBytes(t, "an answer written over", a[:cap(a)], sheet(cap(a), byte(200+i)))
		}
		stands(t, p, true, p.Loose(), safe, seen)
		for n := range 4 {
			reads(t, p, n, seen[512*n:512*n+512])
		}
		syncs(t, p, api.OK)
		safe = seen
	}
	p.Crash(api.Fall{})
	scribble(p.Image(), 250)
	scribble(p.Safe(), 250)
	sameBytes(t, "Image while down", p.Image(), seen)
}
