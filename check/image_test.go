package check_test

import (
	"fmt"
	"math"
	"testing"

	"espalier/api"
	"espalier/check"
	"espalier/plate"
)

// all asks all four of an image: what they answer, as a text, and their errors.
func all(image []byte, page int) (string, []api.Errno) {
	faults, e := check.Look(image, page)
	used, listed, free, f := check.Reach(image, page)
	names, trees, g := check.Trees(image, page)
	cells, h := check.Salvage(image, page)
	return fmt.Sprint(told(faults), used, listed, free, names, trees, asTexts(cells)), []api.Errno{e, f, g, h}
}

const nothing = "[] [] [] [] [] []"

// P21.1 to P21.4: ErrImage of what plate.Load would not take, ahead of all else.
func TestNoImage(t *testing.T) {
	good := imageOf(t, small(api.Plain))
	for _, page := range []int{math.MinInt, -512, -1, 0, 1, 2, 256, 511, 513, 768, 1000, 131072, 1 << 26, 1 << 32, math.MaxInt} {
		for _, image := range [][]byte{nil, good, make([]byte, 1<<20)} {
			s, e := all(image, page)
			sameList(t, fmt.Sprint("a page of ", page), e, []api.Errno{32, 32, 32, 32})
			same(t, "what stands beside", s, nothing)
		}
	}
	for _, n := range []int{0, 1, 511, 512, 1024, 1536, 2047, 2049, 4095, 4097, 1<<25 + 512} {
		image := make([]byte, n)
		copy(image, good)
		s, e := all(image, 512)
		sameList(t, fmt.Sprint(n, " bytes"), e, []api.Errno{32, 32, 32, 32})
		same(t, "what stands beside", s, nothing)
	}
	s, e := all(make([]byte, 1<<26+65536), 65536)
	sameList(t, "more than all bytes", e, []api.Errno{32, 32, 32, 32})
	same(t, "what stands beside", s, nothing)
}

// P21.1: just what plate.Load takes is an image.
func TestImages(t *testing.T) {
	for size := 256; size <= 1<<17; size *= 2 {
		for _, n := range []int{size, 3 * size, 4 * size, 4*size + 1, 5 * size, 4*size - 1, 6*size + 512} {
			image := make([]byte, n)
			_, want := plate.Load(image, size)
			_, e := all(image, size)
			if want == api.OK {
				sameList(t, fmt.Sprint(n, " bytes in pages of ", size), e, []api.Errno{0, 51, 51, 0})
				looksAt(t, "zeros", image, size, "BadMeta 0 0")
				continue
			}
			sameList(t, fmt.Sprint(n, " bytes in pages of ", size), e, []api.Errno{want, want, want, want})
		}
	}
}

// P21.2, P21.3: ErrNoMeta ahead of ErrLost, and ErrLost of any fault; beside them stands nothing.
func TestRefused(t *testing.T) {
	faulty := []func(b *book){
		func(b *book) { b.with(6, sheet{}) },
		func(b *book) { b.with(6, held(0, 1)) },
		func(b *book) { b.cell(5, 1).Page = 8 },
		func(b *book) { b.meta.High = 11 },
		func(b *book) { b.cell(5, 1).Page = 12 },
		func(b *book) { b.with(9, leaf(values("a", "t")...)) },
		func(b *book) { b.cell(5, 1).Count = 3 },
		func(b *book) { b.with(5, leaf(values("m", "n", "o", "p")...)) },
		func(b *book) { b.with(9, leaf(values("s")...)) },
		func(b *book) { b.with(9, leaf(value("s", ""), tree("t", 0, 0))) },
		func(b *book) {
			b.meta.High = 11
			b.with(9, leaf(value("s", ""), long("t", 10, 100))).with(10, held(0, 101))
		},
		func(b *book) { b.meta.Count = 2 },
		func(b *book) { b.meta.High, b.meta.Free, b.meta.Listed = 11, 10, 1; b.with(10, list(0)) },
	}
	both(t, func(t *testing.T, engine int) {
		for i, turn := range faulty {
			b := tall(engine)
			turn(b)
			image := imageOf(t, b)
			if l, _ := check.Look(image, 512); len(l) == 0 {
				t.Errorf("image %d: no fault", i)
			}
			refused(t, fmt.Sprint("image ", i), image, api.ErrLost)
			b.meta.High = 17
			image = imageOf(t, b)
			refused(t, fmt.Sprint("image ", i, " without a meta"), image, api.ErrNoMeta)
		}
	})
}

func refused(t *testing.T, what string, image []byte, want api.Errno) {
	t.Helper()
	used, listed, free, e := check.Reach(image, 512)
	same(t, what+": Reach", fmt.Sprint(used, listed, free, int(e)), fmt.Sprint("[] [] [] ", int(want)))
	names, trees, e := check.Trees(image, 512)
	same(t, what+": Trees", fmt.Sprint(names, trees, int(e)), fmt.Sprint("[] [] ", int(want)))
}
