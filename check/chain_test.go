package check_test

import (
	"fmt"
	"testing"

	"espalier/api"
	"espalier/spill"
)

// P21.1, a chain is gone through: BadKind and BadPage of all that a page may be.
func TestNoPageOfAChain(t *testing.T) {
	for at, below := range map[int]string{4: ", BadLost 5 0, BadLost 6 0", 6: ", BadLost 5 0", 5: "", 7: ""} {
		kind, page := fmt.Sprint("BadKind ", at, " 0", below), fmt.Sprint("BadPage ", at, " 0", below)
		run(t, chained,
			trial{"a leaf", func(b *book) { b.with(at, leaf(values("x")...)) }, kind},
			trial{"an empty leaf", func(b *book) { b.with(at, leaf()) }, kind},
			trial{"a branch", func(b *book) { b.with(at, branch(child("", 2, 1))) }, kind},
			trial{"the other engine's leaf", func(b *book) { b.with(at, leaf(values("x")...).of(3-b.meta.Engine)) }, kind},
			trial{"the other engine's branch", func(b *book) { b.with(at, branch(child("", 2, 1)).of(3-b.meta.Engine)) }, kind},
			trial{"a meta page", func(b *book) { b.with(at, metaPage(b.meta.Engine, 512)) }, kind},
			trial{"a list page", func(b *book) { b.with(at, list(5, 6)) }, kind},
			trial{"zeros", func(b *book) { b.with(at, sheet{}) }, page},
			trial{"a byte turned", func(b *book) { b.with(at, b.sheets[at].turn(13)) }, page},
			trial{"a zero turned", func(b *book) { b.with(at, b.sheets[at].turn(1)) }, page},
			trial{"the sum turned", func(b *book) { b.with(at, b.sheets[at].turn(508)) }, page},
			trial{"a turned leaf", func(b *book) { b.with(at, leaf(values("x")...).turn(200)) }, page},
		)
	}
}

// P21.1, BadChain: a page that holds another number of bytes than it must, that ends too early, that does not end. The chain is gone through no further; the next cell's is.
func TestBadChain(t *testing.T) {
	run(t, chained,
		trial{"a first page that is not full", func(b *book) { b.with(4, held(6, 495)) }, "BadChain 3 0, BadLost 5 0, BadLost 6 0"},
		trial{"a second page that is not full", func(b *book) { b.with(6, held(5, 8)) }, "BadChain 3 0, BadLost 5 0"},
		trial{"a last page that has less", func(b *book) { b.with(5, held(0, 7)) }, "BadChain 3 0"},
		trial{"a last page that has more", func(b *book) { b.with(5, held(0, 9)) }, "BadChain 3 0"},
		trial{"a last page that is full", func(b *book) { b.with(5, held(0, 496)) }, "BadChain 3 0"},
		trial{"it ends at once", func(b *book) { b.with(4, held(0, 496)) }, "BadChain 3 0, BadLost 5 0, BadLost 6 0"},
		trial{"it ends behind the second page", func(b *book) { b.with(6, held(0, 496)) }, "BadChain 3 0, BadLost 5 0"},
		trial{"it does not end", func(b *book) { b.with(5, held(4, 8)) }, "BadChain 3 0"},
		trial{"it goes on beyond High", func(b *book) { b.with(5, held(9, 8)) }, "BadChain 3 0"},
		trial{"it goes on to a page that stands nowhere else", func(b *book) {
			b.meta.High = 9
			b.with(5, held(8, 8)).with(8, held(0, 1))
		}, "BadChain 3 0, BadLost 8 0"},
		trial{"a short one that does not end", func(b *book) { b.with(7, held(2, 97)) }, "BadChain 3 1"},
		trial{"a short one of another length", func(b *book) { b.with(7, held(0, 98)) }, "BadChain 3 1"},
		trial{"both", func(b *book) { b.with(7, held(0, 96)).with(4, held(6, 1)) }, "BadChain 3 0, BadChain 3 1, BadLost 5 0, BadLost 6 0"},
		trial{"two faults of one page", func(b *book) { b.with(5, held(4, 9)) }, "BadChain 3 0"},
		trial{"beyond its bounds, too", func(b *book) {
			b.meta.High = 10
			b.with(2, leaf(tree("a", 8, 4))).with(8, branch(child("", 9, 2), child("y", 3, 2))).with(9, leaf(values("a", "b")...))
			b.with(4, held(6, 1))
		}, "BadOrder 3 0, BadChain 3 0, BadLost 5 0, BadLost 6 0"},
	)
	// The first of a page's faults is told, those of entering ahead.
	run(t, chained,
		trial{"twice, and too short", func(b *book) { b.with(4, held(4, 496)) }, "BadTwice 4 0, BadLost 5 0, BadLost 6 0"},
		trial{"of a list page there is no length", func(b *book) { b.with(5, list(4)) }, "BadKind 5 0"},
	)
}

// P21.1: as many pages as Count bytes take.
func TestCountOfAChain(t *testing.T) {
	for count, want := range map[int]string{
		97: "BadChain 3 0, BadLost 5 0, BadLost 6 0", 495: "BadChain 3 0, BadLost 5 0, BadLost 6 0", 496: "BadChain 3 0, BadLost 5 0, BadLost 6 0",
		497: "BadChain 3 0, BadLost 5 0", 991: "BadChain 3 0, BadLost 5 0", 992: "BadChain 3 0, BadLost 5 0",
		993: "BadChain 3 0", 999: "BadChain 3 0", 1000: "", 1001: "BadChain 3 0", 1488: "BadChain 3 0", 1489: "BadChain 3 0", 65536: "BadChain 3 0",
	} {
		run(t, chained, trial{fmt.Sprint("Count ", count), func(b *book) { b.cell(3, 0).Count = count }, want})
	}
}

// P21.1: values of all lengths about the borders of pages, and the longest one.
func TestLongValues(t *testing.T) {
	for _, size := range []int{512, 4096, 65536} {
		hold, least := size-16, size/16*3+1
		for _, n := range []int{least, hold - 1, hold, hold + 1, 2*hold - 1, 2 * hold, 2*hold + 1, 65535, 65536} {
			if n < least || n > api.MaxValue {
				continue
			}
			both(t, func(t *testing.T, engine int) {
				b := small(engine)
				b.size, b.meta.Page = size, size
				end := 4 + layChain(b, 4, text(n))
				b.pages, b.meta.High = max(end, 4), end
				b.with(3, leaf(long("x", 4, n), value("y", "")))
				looks(t, fmt.Sprint(n, " bytes in pages of ", size), b, "")
				same(t, "the pages of the value", end-4, spill.Pages(size, n))
			})
		}
	}
}

// layChain lays a value into the pages from first on: how many these are.
func layChain(b *book, first int, value []byte) int {
	hold := b.size - 16
	for n := 0; ; n++ {
		if len(value) <= hold {
			b.with(first+n, chainOf(0, value))
			return n + 1
		}
		b.with(first+n, chainOf(first+n+1, value[:hold]))
		value = value[hold:]
	}
}
