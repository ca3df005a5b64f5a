package plate_test

import (
	"testing"

	"espalier/api"
	"espalier/plate"
)

// P3.1 to P3.9: the rows of the chapter's table, one behind the other.
func TestExamples(t *testing.T) {
	same(t, "New(512, 3)", plate.New(512, 3) == nil, true)
	same(t, "New(500, 4)", plate.New(500, 4) == nil, true)
	same(t, "New(65536, 1025)", plate.New(65536, 1025) == nil, true)
	_, e := plate.Load(make([]byte, 2047), 512)
	same(t, "Load", e, api.ErrImage)

	p := plate.New(512, 4)
	writes(t, p, 2, page(7, 8, 9), api.OK)
	reads(t, p, 2, page(7, 8, 9))
	same(t, "Loose", p.Loose(), 1)
	sameBytes(t, "Safe", p.Safe()[1024:1536], zero)

	syncs(t, p, api.OK)
	writes(t, p, 2, page(1), api.OK)
	writes(t, p, 3, page(2), api.OK)
	writes(t, p, 2, page(5), api.OK)
	same(t, "Loose", p.Loose(), 3)

	writes(t, p, 4, page(1), api.ErrPage)
	writes(t, p, 0, page(1)[:511], api.ErrSize)
	refusesRead(t, p, -1, api.ErrPage)

	p.Crash(api.Fall{Keep: []int{1, 2}, Torn: 0, At: 2})
	fell(t, p, zero, zero, page(5), page(2))

	refusesRead(t, p, 2, api.ErrDown)
	syncs(t, p, api.ErrDown)
	counted(t, p, 1, 4, 1)

	p.Start()
	p.Arm(1, api.Fall{Torn: 1, At: 1})
	writes(t, p, 2, page(3), api.OK)
	writes(t, p, 3, page(4), api.ErrDown)
	fell(t, p, zero, zero, page(5), page(4, 2))

	p.Start()
	writes(t, p, 0, page(6), api.OK)
	p.Arm(0, api.Fall{Keep: []int{0}, Torn: -1})
	syncs(t, p, api.ErrDown)
	fell(t, p, page(6), zero, page(5), page(4, 2))
	counted(t, p, 1, 7, 2)

	p.Start()
	p.Arm(0, api.Fall{})
	p.Arm(-1, api.Fall{})
	syncs(t, p, api.OK)
}
