package spill_test

import (
	"math/rand"
	"slices"
	"testing"

	"espalier/api"
	"espalier/spill"
)

// kept is a value that was written, and where.
type kept struct {
	value []byte
	pages []int
}

// run is a long row of calls beside a plain map from first pages to values.
type run struct {
	t       *testing.T
	r       *api.Bench
	by      *rand.Rand
	values  map[int]kept
	refused int
	freed   int
}

// someLength is about a border of pages, or any.
func (u *run) someLength() int {
	hold := u.r.Size() - 16
	switch u.by.Intn(4) {
	case 0:
		return 1 + u.by.Intn(hold)
	case 1:
		return min(65536, (1+u.by.Intn(5))*hold+u.by.Intn(3)-1)
	case 2:
		return min(65536, 1+u.by.Intn(9*hold))
	}
	return 1 + u.by.Intn(65536)
}

func (u *run) taken() int {
	n := 0
	for _, k := range u.values {
		n += len(k.pages)
	}
	return n
}

func (u *run) write(pages int) {
	value := make([]byte, u.someLength())
	u.by.Read(value)
	need := len(cut(value, u.r.Size()))
	room := pages - 2 - u.taken()
	before := u.r.Taken()
	first, e := spill.Write(u.r, value)
	if need > room {
		u.refused++
		same(u.t, "Write into too little room", e, api.ErrFull)
		sameList(u.t, "the pages behind it", u.r.Taken(), before)
		return
	}
	same(u.t, "Write", e, api.OK)
	var fresh []int
	for _, p := range u.r.Taken() {
		if !slices.Contains(before, p) {
			fresh = append(fresh, p)
		}
	}
	l, e := spill.List(u.r, first, len(value))
	same(u.t, "List", e, api.OK)
	slices.Sort(l)
	sameList(u.t, "the pages that were taken", l, fresh)
	u.values[first] = kept{value, fresh}
}

// some is the first page of one of the values.
func (u *run) some() (int, bool) {
	if len(u.values) == 0 {
		return 0, false
	}
	var firsts []int
	for first := range u.values {
		firsts = append(firsts, first)
	}
	slices.Sort(firsts)
	return firsts[u.by.Intn(len(firsts))], true
}

func (u *run) free() {
	first, is := u.some()
	if !is {
		return
	}
	before := u.r.Taken()
	k := u.values[first]
	same(u.t, "Free", spill.Free(u.r, first, len(k.value)), api.OK)
	left := slices.DeleteFunc(before, func(p int) bool { return slices.Contains(k.pages, p) })
	sameList(u.t, "the pages behind Free", u.r.Taken(), left)
	delete(u.values, first)
	u.freed++
}

func (u *run) look() {
	first, is := u.some()
	if !is {
		return
	}
	value := u.values[first].value
	b, e := spill.Read(u.r, first, len(value))
	same(u.t, "Read", e, api.OK)
	sameBytes(u.t, "Read", b, value)
	from := u.by.Intn(len(value) + 1)
	to := from + u.by.Intn(len(value)-from+1)
	b, e = spill.Slice(u.r, first, len(value), from, to)
	same(u.t, "Slice", e, api.OK)
	sameBytes(u.t, "Slice", b, value[from:to])
	goes(u.t, "any length", u.r, first, 1+u.by.Intn(65536))
	cuts(u.t, "any piece", u.r, first, 1+u.by.Intn(min(65536, 3*u.r.Size())), from, to)
}

// P9.7: what was written is read, whatever is written and freed between.
func TestLongRuns(t *testing.T) {
	refused, freed := 0, 0
	for _, page := range sizes() {
		pages := 2 + 3*len(cut(make([]byte, 65536), page))
		u := &run{t: t, r: bench(t, page, pages), by: chance(), values: map[int]kept{}}
		for range 250 {
			switch u.by.Intn(5) {
			case 0, 1:
				u.write(pages)
			case 2:
				u.free()
			default:
				u.look()
			}
			if t.Failed() {
				t.Fatalf("pages of %d", page)
			}
		}
		for first, k := range u.values {
			b, e := spill.Read(u.r, first, len(k.value))
			same(t, "Read at the end", e, api.OK)
			sameBytes(t, "Read at the end", b, k.value)
			same(t, "Free at the end", spill.Free(u.r, first, len(k.value)), api.OK)
		}
		same(t, "pages at the end", len(u.r.Taken()), 0)
		refused, freed = refused+u.refused, freed+u.freed
	}
	if refused < 20 || freed < 100 {
		t.Errorf("the runs met too little: %d refused, %d freed", refused, freed)
	}
}

// P9.4: chains of pages that are tied at will, good and bad, beside a plain walk.
func TestTiedAtWill(t *testing.T) {
	by, met := chance(), map[api.Errno]int{}
	for range 4000 {
		r := bench(t, 512, 12)
		for page := 2; page < 12; page++ {
			n := 496
			if by.Intn(4) == 0 {
				n = 1 + by.Intn(496)
			}
			next := 2 + by.Intn(10)
			if by.Intn(4) == 0 {
				next = 0
			}
			b := good(next, text(n), 512)
			if by.Intn(30) == 0 {
				b[by.Intn(512)]++
			}
			if by.Intn(30) != 0 {
				lay(t, r, page, b)
			}
		}
		first := by.Intn(13)
		for n := 496; n <= 6*496; n += 496 {
			met[goes(t, "tied at will", r, first, n)]++
			cuts(t, "tied at will", r, first, n, by.Intn(n), by.Intn(n+1))
		}
		// The length that the chain has, if it ends at all.
		n, at := 0, first
		for range 10 {
			b, _ := r.Read(at)
			next, held, _ := said(b)
			n, at = n+len(held), next
			if next == 0 {
				break
			}
		}
		if n > 0 {
			met[goes(t, "tied at will", r, first, n)]++
		}
	}
	for _, e := range []api.Errno{api.OK, api.ErrPage, api.ErrCorrupt, api.ErrChain} {
		if met[e] < 100 {
			t.Errorf("the runs met the error %d only %d times", e, met[e])
		}
	}
}
