package free_test

import (
	"slices"
	"testing"

	"espalier/api"
	"espalier/free"
)

const spare = 16

// roomy lays a list into memory of its own, with marked spare room behind it.
func roomy[T any](l []T, marked T) []T {
	return append(slices.Clone(l), slices.Repeat([]T{marked}, spare)...)[:len(l)]
}

// scribble writes over a list and the spare room behind it.
func scribble[T any](l []T, with T) {
	l = l[:cap(l)]
	for i := range l {
		l[i] = with
	}
}

func untouched[T comparable](t *testing.T, what string, l, want []T, marked T) {
	t.Helper()
	if !slices.Equal(l, want) {
		t.Errorf("%s: what was handed in has changed", what)
	}
	if !slices.Equal(l[len(l):len(l)+spare], slices.Repeat([]T{marked}, spare)) {
		t.Errorf("%s: the spare room has changed", what)
	}
}

// P10.10, R2: what New is handed is not changed, and may be written over afterwards.
func TestWhatNewIsHanded(t *testing.T) {
	for _, pages := range [][]int{{9, 4, 7}, {2, 3, 4}, {4, 3, 2}, {4, 4}, {1}, {4, 4, 0}, nil} {
		mine := roomy(pages, -5)
		l, e := free.New(mine)
		untouched(t, "New", mine, pages, -5)
		scribble(mine, 77)
		if e == api.OK {
			stands(t, "New, then written over", l, slices.Sorted(slices.Values(pages)), nil)
		}
	}
}

// P10.10, R2: what Encode and Decode are handed is not changed, nor kept.
func TestWhatEncodeAndDecodeAreHanded(t *testing.T) {
	for _, pages := range [][]int{nil, {2}, {2, 300}, {3, 2}, {0}, row(2, 125), row(2, 126)} {
		mine := roomy(pages, -5)
		b, e := free.Encode(9, mine, 512)
		untouched(t, "Encode", mine, pages, -5)
		scribble(mine, 77)
		if e != api.OK {
			continue
		}
		sameBytes(t, "Encode, then written over", b, good(9, pages, 512))
		page := roomy(b, 0xa5)
		_, told, _ := free.Decode(page)
		untouched(t, "Decode", page, b, 0xa5)
		scribble(page, 0xee)
		sameList(t, "Decode, then written over", told, pages)
	}
	for _, b := range [][]byte{nil, {5}, make([]byte, 512), good(1, nil, 512), laid(0, 126, nil, 512)} {
		page := roomy(b, 0xa5)
		free.Decode(page)
		untouched(t, "Decode that refuses", page, b, 0xa5)
	}
}

// P10.10, R2: spare room behind what is handed in is not read either.
func TestSpareRoomIsNotRead(t *testing.T) {
	l := list(t, []int{4, 5, 4, 1}[:2]...)
	stands(t, "New", l, []int{4, 5}, nil)
	encodes(t, 0, []int{4, 5, 4, 1}[:2], 512)
	whole := good(0, []int{2}, 1024)
	decodes(t, "a page cut, the rest behind it", whole[:512])
	decodes(t, "a page with more behind it", append(good(0, []int{2}, 512), 1, 2, 3)[:512])
}

// P10.10, R2: no two answers share memory, their spare room too, nor does one with the list.
func TestAnswersAreNewMemory(t *testing.T) {
	l := list(t, row(20, 10)...)
	for n := 40; n < 47; n++ {
		gives(t, l, n, 3, api.OK)
	}
	l.Mark()
	ask := func() [][]int { return [][]int{l.Free(), l.Waiting(), l.All(), l.Free(), l.Waiting(), l.All()} }
	answers := ask()
	for i, a := range answers {
		scribble(a, 1000+i)
	}
	for i, a := range answers {
		for _, n := range a[:cap(a)] {
			same(t, "an answer written over", n, 1000+i)
		}
	}
	stands(t, "behind that", l, row(20, 10), row(40, 7))
	takes(t, l, 20)
	scribble(l.Free(), 5)
	same(t, "Back", l.Back(1), api.OK)
	stands(t, "and back", l, row(20, 10), row(40, 7))
	takes(t, l, row(20, 10)...)
}

// P10.10, R2: pages that are answered are new memory as well.
func TestPagesAreNewMemory(t *testing.T) {
	var written [][]byte
	var read [][]int
	for range 4 {
		b, _ := free.Encode(7, row(9, 5), 512)
		written = append(written, b)
		_, pages, _ := free.Decode(good(7, row(9, 5), 512))
		read = append(read, pages)
	}
	for i := range 4 {
		scribble(written[i], byte(200+i))
		scribble(read[i], 200+i)
	}
	for i := range 4 {
		for _, c := range written[i][:cap(written[i])] {
			same(t, "a page written over", c, byte(200+i))
		}
		for _, n := range read[i][:cap(read[i])] {
			same(t, "pages written over", n, 200+i)
		}
	}
	encodes(t, 7, row(9, 5), 512)
}

// P10.10, R6: two lists, of the same pages even, have nothing in common.
func TestTwoLists(t *testing.T) {
	pages := []int{9, 4, 7}
	a, b := list(t, pages...), list(t, pages...)
	takes(t, a, 4)
	gives(t, a, 50, 2, api.OK)
	marks(t, a, 1)
	marks(t, a, 2)
	stands(t, "the other one", b, []int{4, 7, 9}, nil)
	backs(t, b, 1, api.ErrArg)
	marks(t, b, 1)
	gives(t, b, 50, 5, api.OK)
	same(t, "Release of the other one", b.Release(4), 0)
	same(t, "Release", a.Release(4), 1)
	takes(t, b, 4, 7, 9)
	backs(t, a, 1, api.OK)
	stands(t, "the first one", a, []int{7, 9}, []int{50})
	stands(t, "the other one", b, nil, []int{50})
	backs(t, b, 1, api.OK)
	stands(t, "the other one back", b, []int{4, 7, 9}, nil)
	stands(t, "the first one", a, []int{7, 9}, []int{50})
}
