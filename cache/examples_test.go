package cache_test

import (
	"testing"

	"espalier/api"
	"espalier/cache"
	"espalier/plate"
)

// whole is a page of one byte, as the chapter's table writes them.
func whole(x byte) []byte {
	b := make([]byte, 512)
	for i := range b {
		b[i] = x
	}
	return b
}

func getsWhole(t *testing.T, c *cache.Cache, n int, want byte) {
	t.Helper()
	b, e := c.Get(n)
	same(t, "Get", e, api.OK)
	sameBytes(t, "Get", b, whole(want))
}

// P4.1 to P4.6: the rows of the chapter's table, one behind the other.
func TestExamples(t *testing.T) {
	p := plate.New(512, 4)
	for what, x := range map[string]*cache.Cache{"no device": cache.New(nil, 2), "0 frames": cache.New(p, 0), "4097 frames": cache.New(p, 4097)} {
		same(t, what, x == nil, true)
	}
	c := made(t, p, 2)

	getsWhole(t, c, 0, 0)
	getsWhole(t, c, 0, 0)
	refusesGet(t, c, 4, api.ErrPage)
	has(t, c, 1, 0, 0)
	counted(t, c, 1, 1, 0)

	same(t, "Put", c.Put(1, whole(7)), api.OK)
	same(t, "Put of three bytes", c.Put(1, []byte{7, 7, 7}), api.ErrSize)
	same(t, "Put of page 9", c.Put(9, whole(7)), api.ErrPage)
	has(t, c, 2, 1, 0)
	counted(t, c, 1, 1, 0)

	getsWhole(t, c, 0, 0)
	sameBytes(t, "page 1 ahead of its going", onDevice(p, 1), whole(0))
	getsWhole(t, c, 2, 0)
	sameBytes(t, "page 1 behind it", onDevice(p, 1), whole(7))
	has(t, c, 2, 0, 0)
	counted(t, c, 2, 2, 1)

	pins(t, c, 0, api.OK)
	pins(t, c, 2, api.OK)
	refusesGet(t, c, 1, api.ErrPinned)
	same(t, "Put", c.Put(3, whole(5)), api.ErrPinned)
	has(t, c, 2, 0, 2)
	counted(t, c, 4, 2, 1)

	unpins(t, c, 0, api.OK)
	unpins(t, c, 0, api.ErrPin)
	getsWhole(t, c, 1, 7)
	has(t, c, 2, 0, 1)
	counted(t, c, 4, 3, 2)

	drops(t, c, 2, api.ErrPinned)
	drops(t, c, 1, api.OK)
	drops(t, c, 3, api.OK)
	has(t, c, 1, 0, 1)
	counted(t, c, 4, 3, 2)

	same(t, "Put", c.Put(2, whole(9)), api.OK)
	has(t, c, 1, 1, 1)
	flushes(t, c, api.OK)
	sameBytes(t, "page 2", onDevice(p, 2), whole(9))
	has(t, c, 1, 0, 1)
	counted(t, c, 4, 3, 2)
	keeps(t, p, c, 2)
}
