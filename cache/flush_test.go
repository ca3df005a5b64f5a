package cache_test

import (
	"testing"

	"espalier/api"
	"espalier/cache"
	"espalier/plate"
)

// P4.5: with none dirty the device is not asked, up or down, with no page held or with some.
func TestFlushOfNothing(t *testing.T) {
	p, c := both(t, 8, 4)
	flushes(t, c, api.OK)
	gets(t, c, 3, 4)
	pins(t, c, 5, api.OK)
	was := look(p, c)
	flushes(t, c, api.OK)
	unchanged(t, "behind a Flush", look(p, c), was)
	p.Crash(api.Fall{})
	was = look(p, c)
	flushes(t, c, api.OK)
	unchanged(t, "behind a Flush while down", look(p, c), was)
}

// P4.5: all dirty pages are written, pinned ones too, and are clean; they stay held and pinned. Nothing is synced.
func TestFlush(t *testing.T) {
	p, c := both(t, 8, 5)
	puts(t, c, 6, 66, api.OK)
	gets(t, c, 3, 4)
	puts(t, c, 0, 60, api.OK)
	pins(t, c, 0, api.OK)
	puts(t, c, 4, 64, api.OK)
	flushes(t, c, api.OK)
	asked(t, p, 1, 3)
	same(t, "Loose", p.Loose(), 3)
	tells(t, p, 0, 60)
	tells(t, p, 4, 64)
	tells(t, p, 6, 66)
	tells(t, p, 3, 4)
	same(t, "State", c.State(), api.CacheState{Frames: 5, Held: 4, Pinned: 1, Hits: 1, Misses: 1})
	flushes(t, c, api.OK)
	asked(t, p, 1, 3)
	gets(t, c, 6, 66)
	puts(t, c, 4, 74, api.OK)
	has(t, c, 4, 1, 1)
	flushes(t, c, api.OK)
	asked(t, p, 1, 4)
	tells(t, p, 4, 74)
	keeps(t, p, c, 0, 3, 4, 6)
}

// scattered has dirty pages 7, 2, 5, 0 in that order of use, and page 3 clean among them.
func scattered(t *testing.T) (*plate.Plate, *cache.Cache) {
	t.Helper()
	p, c := both(t, 8, 6)
	puts(t, c, 7, 107, api.OK)
	puts(t, c, 2, 102, api.OK)
	gets(t, c, 3, 4)
	puts(t, c, 5, 105, api.OK)
	puts(t, c, 0, 100, api.OK)
	return p, c
}

// P4.5: the writes come by rising numbers: a fall that keeps one of them tells which it was.
func TestFlushByRisingNumbers(t *testing.T) {
	for k, n := range []int{0, 2, 5, 7} {
		p, c := scattered(t)
		flushes(t, c, api.OK)
		same(t, "Loose", p.Loose(), 4)
		want := device(t, 8).Image()
		copy(want[512*n:], page(100+n))
		p.Crash(api.Fall{Keep: []int{k}, Torn: -1})
		sameBytes(t, "Image", p.Image(), want)
	}
}

// P4.5: with many pages too, put in an order that is not theirs.
func TestFlushManyByRisingNumbers(t *testing.T) {
	for acts := range 97 {
		p, c := both(t, 97, 97)
		for k := range 97 {
			puts(t, c, k*41%97, k, api.OK)
		}
		p.Arm(acts, api.Fall{Torn: -1})
		flushes(t, c, api.ErrDown)
		has(t, c, 97, 97-acts, 0)
		asked(t, p, 0, acts+1)
		for n := acts; n < 97; n++ {
			drops(t, c, n, api.OK)
		}
		has(t, c, acts, 0, 0)
	}
}

// P4.5: the power fails at the first, a middle, the last write: those ahead of it are clean, the others dirty as they were.
func TestFlushThatFails(t *testing.T) {
	order := []int{0, 2, 5, 7}
	for acts := range order {
		p, c := scattered(t)
		p.Arm(acts, api.Fall{Keep: []int{0, 1, 2, 3}, Torn: -1})
		flushes(t, c, api.ErrDown)
		asked(t, p, 1, acts+1)
		same(t, "State", c.State(), api.CacheState{Frames: 6, Held: 5, Dirty: 4 - acts, Misses: 1})
		was := look(p, c)
		flushes(t, c, api.ErrDown)
		unchanged(t, "a Flush while down", look(p, c), was)
		for _, n := range order {
			gets(t, c, n, 100+n)
		}
		p.Start()
		for k, n := range order {
			dirty := c.State().Dirty
			drops(t, c, n, api.OK)
			same(t, "the page was dirty", c.State().Dirty < dirty, k >= acts)
		}
	}
}

// P4.5: behind a Flush that failed the next one writes what is still dirty, and no more.
func TestFlushAgain(t *testing.T) {
	for acts := range 4 {
		p, c := scattered(t)
		p.Arm(acts, api.Fall{Keep: []int{0, 1, 2, 3}, Torn: -1})
		flushes(t, c, api.ErrDown)
		p.Start()
		flushes(t, c, api.OK)
		asked(t, p, 1, 5)
		same(t, "Loose", p.Loose(), 4-acts)
		has(t, c, 5, 0, 0)
		for _, n := range []int{0, 2, 5, 7} {
			tells(t, p, n, 100+n)
		}
	}
}

// P4.5, P4.8: what was written ahead of a fall is clean here, though the fall has taken it from the device.
func TestFlushedAndFallen(t *testing.T) {
	p, c := scattered(t)
	p.Arm(2, api.Fall{Torn: -1})
	flushes(t, c, api.ErrDown)
	p.Start()
	flushes(t, c, api.OK)
	tells(t, p, 0, 1)
	tells(t, p, 2, 3)
	tells(t, p, 5, 105)
	tells(t, p, 7, 107)
	gets(t, c, 0, 100)
	drops(t, c, 0, api.OK)
	gets(t, c, 0, 1)
}
