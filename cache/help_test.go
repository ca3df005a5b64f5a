package cache_test

import (
	"math/rand"
	"slices"
	"testing"

	"espalier/api"
	"espalier/cache"
	"espalier/plate"
)

// page is 512 bytes that are not all alike, so that bytes out of place show.
func page(x int) []byte {
	b := make([]byte, 512)
	for i := range b {
		b[i] = byte(x + i/256)
	}
	return b
}

// device has so many pages of 512 bytes; page n of it is page(n + 1), safe.
func device(t *testing.T, pages int) *plate.Plate {
	t.Helper()
	var image []byte
	for n := range pages {
		image = append(image, page(n+1)...)
	}
	p, e := plate.Load(image, 512)
	if e != api.OK {
		t.Fatal("no device:", e)
	}
	return p
}

func made(t *testing.T, p *plate.Plate, frames int) *cache.Cache {
	t.Helper()
	c := cache.New(p, frames)
	if c == nil {
		t.Fatalf("New(p, %d) answers nil", frames)
	}
	return c
}

// both are a device and a cache over it.
func both(t *testing.T, pages, frames int) (*plate.Plate, *cache.Cache) {
	t.Helper()
	p := device(t, pages)
	return p, made(t, p, frames)
}

func same[T comparable](t *testing.T, what string, got, want T) {
	t.Helper()
	if got != want {
		t.Errorf("%s: %v, want %v", what, got, want)
	}
}

// sameBytes tells the first byte that differs, for whole images are too long to print.
func sameBytes(t *testing.T, what string, got, want []byte) {
	t.Helper()
	if len(got) != len(want) {
		t.Errorf("%s: %d bytes, want %d", what, len(got), len(want))
		return
	}
	for i := range got {
		if got[i] != want[i] {
			t.Errorf("%s: byte %d is %d, want %d", what, i, got[i], want[i])
			return
		}
	}
}

func gets(t *testing.T, c *cache.Cache, n, want int) {
	t.Helper()
	b, e := c.Get(n)
	same(t, "Get", e, api.OK)
	sameBytes(t, "Get", b, page(want))
}

func refusesGet(t *testing.T, c *cache.Cache, n int, want api.Errno) {
	t.Helper()
	b, e := c.Get(n)
	same(t, "Get", e, want)
	same(t, "bytes beside the error", len(b), 0)
}

func puts(t *testing.T, c *cache.Cache, n, x int, want api.Errno) {
	t.Helper()
	same(t, "Put", c.Put(n, page(x)), want)
}

func pins(t *testing.T, c *cache.Cache, n int, want api.Errno) {
	t.Helper()
	same(t, "Pin", c.Pin(n), want)
}

func unpins(t *testing.T, c *cache.Cache, n int, want api.Errno) {
	t.Helper()
	same(t, "Unpin", c.Unpin(n), want)
}

func flushes(t *testing.T, c *cache.Cache, want api.Errno) {
	t.Helper()
	same(t, "Flush", c.Flush(), want)
}

func drops(t *testing.T, c *cache.Cache, n int, want api.Errno) {
	t.Helper()
	same(t, "Drop", c.Drop(n), want)
}

// has holds the pages of a State against what they should be.
func has(t *testing.T, c *cache.Cache, held, dirty, pinned int) {
	t.Helper()
	s := c.State()
	same(t, "Held, Dirty, Pinned", [3]int{s.Held, s.Dirty, s.Pinned}, [3]int{held, dirty, pinned})
}

// counted holds the counts of a State against what they should be.
func counted(t *testing.T, c *cache.Cache, hits, misses, evicted int) {
	t.Helper()
	s := c.State()
	same(t, "Hits, Misses, Evicted", [3]int{s.Hits, s.Misses, s.Evicted}, [3]int{hits, misses, evicted})
}

// asked holds what a device was asked against what it should have been; no cache ever syncs.
func asked(t *testing.T, p *plate.Plate, reads, writes int) {
	t.Helper()
	same(t, "Counts", p.Counts(), api.Counts{Reads: reads, Writes: writes})
}

// onDevice is what the device has of a page, read where no Read is counted.
func onDevice(p *plate.Plate, n int) []byte { return p.Image()[512*n : 512*n+512] }

func tells(t *testing.T, p *plate.Plate, n, want int) {
	t.Helper()
	sameBytes(t, "the device's page", onDevice(p, n), page(want))
}

// sight is all that a cache and its device tell of themselves without being changed by it.
type sight struct {
	state  api.CacheState
	counts api.Counts
	image  string
	safe   string
	loose  int
	up     bool
}

func look(p *plate.Plate, c *cache.Cache) sight {
	return sight{c.State(), p.Counts(), string(p.Image()), string(p.Safe()), p.Loose(), p.Up()}
}

// unchanged holds two looks against each other.
func unchanged(t *testing.T, what string, got, was sight) {
	t.Helper()
	same(t, what+": State", got.state, was.state)
	same(t, what+": Counts", got.counts, was.counts)
	same(t, what+": Loose", got.loose, was.loose)
	same(t, what+": Up", got.up, was.up)
	same(t, what+": Image is as it was", got.image == was.image, true)
	same(t, what+": Safe is as it was", got.safe == was.safe, true)
}

// keeps asks, at the end of a test, which pages are held: it drops what is not pinned.
func keeps(t *testing.T, p *plate.Plate, c *cache.Cache, want ...int) {
	t.Helper()
	var got []int
	for n := range p.Pages() {
		held := c.State().Held
		if c.Drop(n) == api.ErrPinned || c.State().Held < held {
			got = append(got, n)
		}
	}
	if !slices.Equal(got, want) {
		t.Errorf("held are %v, want %v", got, want)
	}
}

// dirtied has the first pages held and dirty, page n as page(100 + n), used by rising numbers.
func dirtied(t *testing.T, pages, frames int) (*plate.Plate, *cache.Cache) {
	t.Helper()
	p, c := both(t, pages, frames)
	for n := range frames {
		puts(t, c, n, 100+n, api.OK)
	}
	return p, c
}

// leaveInOrder tells that of the pages which a cache holds behind a script these go, one by one, in this order: the script is played anew for each, and pages from 8 on, which it must not touch, are asked for.
func leaveInOrder(t *testing.T, script func() (*plate.Plate, *cache.Cache), stay []int, order ...int) {
	t.Helper()
	for k := range len(order) + 1 {
		p, c := script()
		evicted := c.State().Evicted
		held := slices.Concat(stay, order[k:])
		for n := range k {
			gets(t, c, 8+n, 9+n)
			held = append(held, 8+n)
		}
		same(t, "Evicted", c.State().Evicted, evicted+k)
		slices.Sort(held)
		keeps(t, p, c, held...)
	}
}

// chance is the same row of numbers in every run.
func chance() *rand.Rand { return rand.New(rand.NewSource(4)) }
