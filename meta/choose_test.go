package meta_test

import (
	"bytes"
	"fmt"
	"math"
	"testing"

	"espalier/api"
	"espalier/meta"
)

// bad are bytes that are no meta page.
func bad(t *testing.T) map[string][]byte {
	t.Helper()
	half := page(t, with(9))
	copy(half[15:], make([]byte, 300))
	wrong := page(t, with(8))
	wrong[511]++
	return map[string][]byte{
		"nil": nil, "nothing": {}, "zeros": make([]byte, 512), "a page with a wrong sum": wrong, "half a page": half, "a page cut": page(t, with(8))[:511],
		"one that is no meta": laid(but(t, sample(), "Engine", 3), 512), "another kind": summed(append([]byte{2}, page(t, with(8))[1:]...)),
	}
}

// P5.2: of two good pages the one with the greater Txn.
func TestChooseOfTwo(t *testing.T) {
	for _, c := range []struct{ zero, one, want int }{
		{0, 1, 1}, {2, 1, 0}, {2, 3, 1}, {4, 3, 0}, {6, 7, 1}, {8, 7, 0}, {0, 3, 1}, {100, 1, 0}, {2, 101, 1}, {0, 1099511627775, 1}, {1099511627776, 1099511627775, 0}, {1099511627774, 1099511627775, 1}, {1099511627776, 1, 0}, {1 << 32, 1<<32 - 1, 0}, {1<<32 - 2, 1<<32 + 1, 1},
	} {
		a, b := page(t, with(c.zero)), page(t, with(c.one))
		want := with(c.zero)
		if c.want == 1 {
			want = with(c.one)
		}
		picks(t, fmt.Sprint(c.zero, " and ", c.one), a, b, want, c.want)
		picksNone(t, fmt.Sprint(c.one, " and ", c.zero), b, a)
	}
}

// P5.2: one good page, at its own place and at the other's.
func TestChooseOfOne(t *testing.T) {
	for what, none := range bad(t) {
		for _, txn := range []int{0, 2, 8, 1099511627776} {
			b := page(t, with(txn))
			picks(t, fmt.Sprint(txn, " and ", what), b, none, with(txn), 0)
			picksNone(t, fmt.Sprint(what, " and ", txn), none, b)
		}
		for _, txn := range []int{1, 7, 1099511627775} {
			b := page(t, with(txn))
			picks(t, fmt.Sprint(what, " and ", txn), none, b, with(txn), 1)
			picksNone(t, fmt.Sprint(txn, " and ", what), b, none)
		}
	}
}

// P5.2: a new store's meta, all zero but three numbers, is picked.
func TestChooseOfANewStore(t *testing.T) {
	b := page(t, empty(1, 512))
	picks(t, "a new store", b, nil, empty(1, 512), 0)
	picks(t, "a new store", b, b, empty(1, 512), 0)
	first := but(t, empty(1, 512), "Txn", 1)
	picks(t, "its first commit", b, page(t, first), first, 1)
}

// P5.2: one that does not belong there is none, however new it is.
func TestChooseOfOneOutOfPlace(t *testing.T) {
	two, three, eight, nine := page(t, with(2)), page(t, with(3)), page(t, with(8)), page(t, with(9))
	picks(t, "2 and 8", two, eight, with(2), 0)
	picks(t, "9 and 3", nine, three, with(3), 1)
	picks(t, "2 and 2", two, two, with(2), 0)
	picks(t, "9 and 9", nine, nine, with(9), 1)
	picksNone(t, "9 and 8", nine, eight)
	picksNone(t, "3 and 2", three, two)
}

// P5.2: none is good.
func TestChooseOfNone(t *testing.T) {
	for what, a := range bad(t) {
		for other, b := range bad(t) {
			picksNone(t, what+" and "+other, a, b)
		}
	}
}

// P5.2: Engine and Page of the two are not held against each other, nor anything else but Txn.
func TestChooseOfUnlikePages(t *testing.T) {
	for _, size := range sizes() {
		for engine := 1; engine <= 2; engine++ {
			m := api.Meta{Engine: engine, Page: size, Txn: 6, Root: 8, Count: 200, Free: 7, Listed: 60, High: 1000}
			a := page(t, m)
			picks(t, "beside 7", a, page(t, with(7)), with(7), 1)
			picks(t, "beside 5", a, page(t, with(5)), m, 0)
			m.Txn = 7
			b := page(t, m)
			picks(t, "beside 8", page(t, with(8)), b, with(8), 0)
			picks(t, "beside 6", page(t, with(6)), b, m, 1)
		}
	}
}

// P5.3: of even numbers 0, of odd ones 1, of those below 0 too.
func TestSlot(t *testing.T) {
	for _, c := range []struct{ txn, want int }{
		{0, 0}, {1, 1}, {2, 0}, {7, 1}, {8, 0}, {-1, 1}, {-2, 0}, {-3, 1}, {-4, 0}, {-7, 1}, {1099511627775, 1}, {1099511627776, 0}, {math.MaxInt, 1}, {math.MaxInt - 1, 0}, {math.MinInt, 0}, {math.MinInt + 1, 1},
	} {
		same(t, fmt.Sprint("Slot of ", c.txn), meta.Slot(c.txn), c.want)
	}
	for n := -1000; n < 1000; n++ {
		same(t, fmt.Sprint("Slot of ", n), meta.Slot(n), ((n%2)+2)%2)
	}
}

// over is what a page is while another is written over it: its first bytes new, the rest old.
func over(old, new []byte, n int) []byte { return append(bytes.Clone(new[:n]), old[n:]...) }

// P5.4: commit behind commit, each picked when it is written; and while it is written half, the one ahead of it stays picked.
func TestCommitsInTurns(t *testing.T) {
	r := chance()
	for _, start := range []int{0, 1<<40 - 20} {
		pair := [2][]byte{make([]byte, 512), make([]byte, 512)}
		last := empty(1, 512)
		last.Txn = start
		pair[meta.Slot(start)] = page(t, last)
		for txn := start + 1; txn <= start+20; txn++ {
			next := someMeta(r)
			next.Engine, next.Page, next.Txn = 1, 512, txn
			slot := meta.Slot(txn)
			old, new := pair[slot], page(t, next)
			for n := range len(new) + 1 {
				pair[slot] = over(old, new, n)
				if _, e := meta.Decode(pair[slot]); e == api.OK {
					continue // the old one still, or the new one already
				}
				picks(t, fmt.Sprint(txn, " written to ", n), pair[0], pair[1], last, meta.Slot(last.Txn))
			}
			pair[slot] = old
			picks(t, fmt.Sprint(txn, " not written"), pair[0], pair[1], last, meta.Slot(last.Txn))
			pair[slot] = new
			picks(t, fmt.Sprint(txn, " written"), pair[0], pair[1], next, slot)
			last = next
		}
	}
}

// P5.4: what is picked stays picked, whatever stands in the other page that is no meta page.
func TestThePickedOneStays(t *testing.T) {
	for what, b := range bad(t) {
		picks(t, "8 beside "+what, page(t, with(8)), b, with(8), 0)
		picks(t, what+" beside 9", b, page(t, with(9)), with(9), 1)
	}
}
