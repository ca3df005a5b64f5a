package pager_test

import (
	"testing"

	"espalier/api"
	"espalier/pager"
)

// The chapter's table, row by row: P11.1 to P11.9.
func TestExamples(t *testing.T) {
	d := device(t, 8)
	refusesOpen(t, "Open(nil, 1)", nil, 1, api.ErrArg)
	refusesOpen(t, "Open(d, 3)", d, 3, api.ErrEngine)
	p := opened(t, d)
	same(t, "Meta", p.Meta(), plainMeta(api.Meta{Txn: 0, High: 2}))

	x := begun(t, p)
	refusesBegin(t, p, api.ErrBusy)
	same(t, "Spare(6)", x.Spare(6), true)
	same(t, "Spare(7)", x.Spare(7), false)

	takes(t, x, 2, 3, 4)
	writes(t, x, 3, 9, api.OK)
	writes(t, x, 5, 9, api.ErrPage)
	frees(t, x, api.OK, 4)
	takes(t, x, 4)

	setsRoot(t, x, 3, 1, api.OK)
	setsRoot(t, x, 7, 1, api.ErrArg)
	frees(t, x, api.OK, 4)
	commits(t, x, 1)
	same(t, "Meta", p.Meta(), plainMeta(api.Meta{Txn: 1, Root: 3, Count: 1, Free: 4, Listed: 0, High: 5}))

	v := viewed(t, p)
	u := begun(t, p)
	writes(t, u, 3, 9, api.ErrFresh)
	frees(t, u, api.OK, 3)
	refusesRead(t, u, 3, api.ErrPage)
	reads(t, v, 3, page(9))

	setsRoot(t, u, 0, 0, api.OK)
	commits(t, u, 2)
	same(t, "Meta", p.Meta(), plainMeta(api.Meta{Txn: 2, Free: 5, Listed: 2, High: 6}))
	sameList(t, "the list", tell(t, d).listed, []int{3, 4})

	w := begun(t, p)
	takes(t, w, 6)
	rollsBack(t, w, api.OK)
	v.Close()
	w = begun(t, p)
	takes(t, w, 3)
}

// The table's last row.
func TestExamplesOfOpen(t *testing.T) {
	d, _ := both(t, 8)
	refusesOpen(t, "of another engine", d, api.Packed, api.ErrFormat)
	d = device(t, 8)
	d.Write(3, page(1))
	refusesOpen(t, "of one without meta pages", d, api.Plain, api.ErrNoMeta)
}

// The example 2 of the whole: a new store is one meta page, in page 0.
func TestExampleOfTheWhole(t *testing.T) {
	for _, engine := range []int{api.Plain, api.Packed} {
		d := device(t, 400)
		refusesOpen(t, "of no engine", d, 0, api.ErrEngine)
		p, e := pager.Open(d, engine)
		same(t, "Open", e, api.OK)
		same(t, "Txn", p.Meta().Txn, 0)
		want := make([]byte, 512)
		copy(want, []byte{1, byte(engine), 0, 0, 0x45, 0x53, 0x50, 0x4c, 0, 0, 2, 0})
		copy(want[36:], []byte{0, 0, 0, 2})
		sameBytes(t, "page 0", onDevice(d, 0), summed(want))
		sameBytes(t, "all others", d.Safe()[512:], make([]byte, 399*512))
	}
}
