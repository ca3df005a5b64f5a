package spill_test

import (
	"testing"

	"espalier/api"
	"espalier/spill"
)

// P9.2: the first row of the chapter's examples.
func TestExamplePages(t *testing.T) {
	for _, c := range [][3]int{{512, 496, 1}, {512, 497, 2}, {512, 0, 0}, {500, 9, 0}, {65536, 65536, 2}} {
		same(t, "Pages", spill.Pages(c[0], c[1]), c[2])
	}
}

// P9.1: the second row and the third one.
func TestExampleEncode(t *testing.T) {
	b, e := spill.Encode(0, []byte("ab"), 512)
	same(t, "Encode", e, api.OK)
	want := append([]byte{4, 0, 0, 0, 0, 0, 0, 0, 0, 0, 0, 2, 0x61, 0x62}, make([]byte, 494+4)...)
	sameBytes(t, "Encode", b, summed(want))
	for _, c := range []struct {
		next, n int
		want    api.Errno
	}{{1, 1, api.ErrArg}, {0, 0, api.ErrSize}, {0, 497, api.ErrSize}} {
		b, e := spill.Encode(c.next, text(c.n), 512)
		same(t, "Encode", e, c.want)
		same(t, "bytes beside the error", len(b), 0)
	}
}

// P9.3, P9.4, P9.5, P9.6: the rows from the fourth on, one behind the other.
func TestExampleChain(t *testing.T) {
	r, a := bench(t, 512, 20), text(500)
	first, e := spill.Write(r, a)
	same(t, "Write", e, api.OK)
	same(t, "the first page", first, 2)
	sameList(t, "Taken", r.Taken(), []int{2, 3})
	b, _ := r.Read(2)
	sameBytes(t, "page 2", b, good(3, a[:496], 512))
	b, _ = r.Read(3)
	sameBytes(t, "page 3", b, good(0, a[496:], 512))

	for _, c := range []struct {
		first, n int
		data     []byte
		want     api.Errno
	}{{2, 500, a, api.OK}, {2, 499, nil, api.ErrChain}, {3, 4, a[496:], api.OK}, {2, 496, nil, api.ErrChain}, {7, 5, nil, api.ErrPage}} {
		b, e := spill.Read(r, c.first, c.n)
		same(t, "Read", e, c.want)
		sameBytes(t, "Read", b, c.data)
	}

	l, e := spill.List(r, 2, 500)
	same(t, "List", e, api.OK)
	sameList(t, "List", l, []int{2, 3})
	for _, c := range []struct {
		from, to, reads int
		data            []byte
		want            api.Errno
	}{{495, 497, 2, a[495:497], api.OK}, {9, 9, 0, nil, api.OK}, {0, 501, 0, nil, api.ErrArg}} {
		was := r.Reads()
		b, e := spill.Slice(r, 2, 500, c.from, c.to)
		same(t, "Slice", e, c.want)
		sameBytes(t, "Slice", b, c.data)
		same(t, "pages that Slice reads", r.Reads()-was, c.reads)
	}

	for _, n := range []int{0, 65537} {
		_, e = spill.Write(r, text(n))
		same(t, "Write", e, api.ErrSize)
	}
	same(t, "Free", spill.Free(r, 2, 500), api.OK)
	same(t, "pages behind Free", len(r.Taken()), 0)
	same(t, "Free once more", spill.Free(r, 2, 500), api.ErrPage)
}
