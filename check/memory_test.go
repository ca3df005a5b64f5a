package check_test

import (
	"bytes"
	"fmt"
	"slices"
	"testing"

	"espalier/api"
	"espalier/check"
)

// roomy is the image in memory of its own, with marked room behind it.
func roomy(image []byte) []byte {
	return slices.Concat(image, bytes.Repeat([]byte{0xa5}, 4096))[:len(image)]
}

// books are some of all sorts, whole and not.
func books(engine int) []*book {
	l := []*book{small(engine), tall(engine), chained(engine), listing(engine), wide(engine), mixed(engine)}
	for _, base := range []func(int) *book{tall, mixed, listing} {
		b := base(engine)
		b.meta.Count++
		b.with(5, sheet{})
		l = append(l, b)
	}
	none := small(engine)
	none.meta.High = 9
	return append(l, none)
}

// P21.7: the image is not changed, nor the room behind it.
func TestTheImageStays(t *testing.T) {
	both(t, func(t *testing.T, engine int) {
		for _, b := range books(engine) {
			want := imageOf(t, b)
			image := roomy(want)
			for _, size := range []int{512, 1024, 500} {
				all(image, size)
			}
			same(t, "the image", bytes.Equal(image, want), true)
			same(t, "the room behind it", bytes.Equal(image[len(want):len(want)+4096], bytes.Repeat([]byte{0xa5}, 4096)), true)
		}
	})
}

// P21.7: nothing of the image is kept: what was answered stays, when it is written over, and what is asked anew is told of what is there then.
func TestNothingIsKept(t *testing.T) {
	both(t, func(t *testing.T, engine int) {
		for _, b := range books(engine) {
			image := imageOf(t, b)
			faults, _ := check.Look(image, 512)
			used, listed, free, _ := check.Reach(image, 512)
			names, trees, _ := check.Trees(image, 512)
			cells, _ := check.Salvage(image, 512)
			tells := func() string {
				return fmt.Sprint(told(faults), used, listed, free, names, trees, asTexts(cells))
			}
			was := tells()
			for i := range image {
				image[i] = 0xee
			}
			same(t, "what was answered", tells(), was)
			s, _ := all(image, 512)
			same(t, "what is answered now", s, "BadMeta 0 0"+nothing)
		}
	})
}

// marked writes over each part, its spare room too, and asks that it stays so when the others are written over: else two share memory.
func marked(t *testing.T, what string, parts ...[]byte) {
	t.Helper()
	mark := func(i, j int) byte { return byte(i>>(8*(j%2)) + j) }
	for i, b := range parts {
		for j := range b[:cap(b)] {
			b[:cap(b)][j] = mark(i, j)
		}
	}
	for i, b := range parts {
		for j, c := range b[:cap(b)] {
			if c != mark(i, j) {
				t.Fatalf("%s: part %d shares memory", what, i)
			}
		}
	}
}

// P21.7: no two of an answer's lists share memory, nor do two answers, or an answer and the image.
func TestWhatIsAnsweredIsNew(t *testing.T) {
	both(t, func(t *testing.T, engine int) {
		for i, b := range books(engine) {
			what := fmt.Sprint("book ", i)
			image := imageOf(t, b)
			first, errors := all(image, 512)
			parts := [][]byte{}
			for range 2 {
				cells, _ := check.Salvage(image, 512)
				for _, c := range cells {
					parts = append(parts, c.Key, c.Value)
				}
				_, trees, _ := check.Trees(image, 512)
				for _, l := range trees {
					for _, p := range l {
						parts = append(parts, p.Key, p.Value)
					}
				}
			}
			marked(t, what, parts...)
			listsAreNew(t, what, image)
			second, again := all(image, 512)
			same(t, what+": the answer then", second, first)
			sameList(t, what+": the errors then", again, errors)
		}
	})
}

// listsAreNew asks that lists of numbers, of pairs, of faults have spare room of their own.
func listsAreNew(t *testing.T, what string, image []byte) {
	t.Helper()
	used, listed, free, _ := check.Reach(image, 512)
	want := fmt.Sprint(used, listed, free)
	for _, l := range [][]int{used, listed, free} {
		for i := range l[len(l):cap(l)] {
			l[len(l):cap(l)][i] = -1
		}
	}
	same(t, what+": Reach", fmt.Sprint(used, listed, free), want)
	_, trees, _ := check.Trees(image, 512)
	want = fmt.Sprint(trees)
	for _, l := range trees {
		for i := range l[len(l):cap(l)] {
			l[len(l):cap(l)][i] = api.Pair{Key: []byte("spare")}
		}
	}
	same(t, what+": Trees", fmt.Sprint(trees), want)
	for _, size := range []int{512, 500} {
		l, _ := check.Look(image, size)
		for i := range l[:cap(l)] {
			l[:cap(l)][i] = api.Fault{What: -1}
		}
	}
}
