package check_test

import (
	"fmt"
	"slices"
	"testing"

	"espalier/api"
	"espalier/check"
)

// mixed has a tree below a branch, a long value, a list that lists one page.
func mixed(engine int) *book {
	b := tall(engine)
	b.meta.High, b.meta.Free, b.meta.Listed = 14, 12, 1
	return b.with(9, leaf(value("s", ""), long("t", 11, 600))).
		with(11, held(10, 496)).with(10, held(0, 104)).with(12, list(0, 13))
}

// P21.6: one byte is changed in a page in use, or of the list: BadPage of it is told. Every byte of every such page of one image, some of others.
func TestOneByte(t *testing.T) {
	both(t, func(t *testing.T, engine int) {
		looks(t, "mixed", mixed(engine), "")
		oneByte(t, mixed(engine), 1)
		for _, base := range []func(int) *book{small, tall, chained, listing, wide} {
			oneByte(t, base(engine), 13)
		}
	})
}

func oneByte(t *testing.T, b *book, step int) {
	t.Helper()
	r := chance(int64(b.meta.High))
	image := imageOf(t, b)
	used, listed, _, e := check.Reach(image, b.size)
	stop(t, "Reach", e)
	for _, n := range slices.Concat(used, listed) {
		for at := r.Intn(step); at < b.size; at += step {
			was := image[n*b.size+at]
			image[n*b.size+at] ^= byte(1 + r.Intn(255))
			l, e := check.Look(image, b.size)
			stop(t, "Look", e)
			if !slices.Contains(l, api.Fault{What: api.BadPage, Page: n}) {
				t.Fatalf("byte %d of page %d: %s", at, n, told(l))
			}
			image[n*b.size+at] = was
		}
	}
	looksAt(t, "the image behind all", image, b.size, "")
}

// A byte that is changed in a page that is listed, or beyond High, is no fault; nor in the meta page that was not picked.
func TestBytesThatMeanNothing(t *testing.T) {
	both(t, func(t *testing.T, engine int) {
		b := mixed(engine)
		image := imageOf(t, b)
		for _, n := range []int{0, 13, 14, 15} {
			for at := range b.size {
				image[n*b.size+at] ^= byte(1 + at%255)
			}
			looksAt(t, fmt.Sprint("page ", n), image, b.size, "")
		}
		image[b.size+20] ^= 1
		looksAt(t, "the meta page", image, b.size, "BadMeta 0 0")
	})
}
