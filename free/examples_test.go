package free_test

import (
	"testing"

	"espalier/api"
	"espalier/free"
)

func refusesNew(t *testing.T, want api.Errno, pages ...int) {
	t.Helper()
	l, e := free.New(pages)
	same(t, "New of "+brief(pages), e, want)
	same(t, "no list beside the error", l == nil, true)
}

// The chapter's table, row by row: P10.1 to P10.6.
func TestExamplesOfAList(t *testing.T) {
	refusesNew(t, api.ErrTwice, 4, 4)
	refusesNew(t, api.ErrPage, 1)
	refusesNew(t, api.ErrPage, 65536)
	l := list(t, 9, 4, 7)
	takes(t, l, 4, 7)
	gives(t, l, 4, 3, api.OK)
	gives(t, l, 4, 5, api.ErrTwice)
	gives(t, l, 9, 0, api.ErrTwice)
	gives(t, l, 1, 0, api.ErrPage)
	gives(t, l, 5, -1, api.ErrArg)
	gives(t, l, 5, 0, api.OK)
	sameList(t, "Free", l.Free(), []int{5, 9})
	sameList(t, "Waiting", l.Waiting(), []int{4})
	sameList(t, "All", l.All(), []int{4, 5, 9})
	same(t, "Mark", l.Mark(), 1)
	takes(t, l, 5)
	same(t, "Release(2)", l.Release(2), 0)
	same(t, "Release(3)", l.Release(3), 1)
	sameList(t, "Free", l.Free(), []int{4, 9})
	same(t, "Back(1)", l.Back(1), api.OK)
	sameList(t, "Free", l.Free(), []int{5, 9})
	sameList(t, "Waiting", l.Waiting(), []int{4})
	same(t, "Back(1)", l.Back(1), api.OK)
	same(t, "Mark", l.Mark(), 2)
	same(t, "Mark", l.Mark(), 3)
	same(t, "Back(2)", l.Back(2), api.OK)
	same(t, "Back(3)", l.Back(3), api.ErrArg)
	same(t, "Mark", l.Mark(), 4)
}

// The chapter's table, row by row: P10.7 to P10.9.
func TestExamplesOfPages(t *testing.T) {
	same(t, "Room(512)", free.Room(512), 125)
	same(t, "Room(65536)", free.Room(65536), 16381)
	same(t, "Room(500)", free.Room(500), 0)
	b, e := free.Encode(0, []int{2, 300}, 512)
	same(t, "Encode", e, api.OK)
	same(t, "its length", len(b), 512)
	sameBytes(t, "its first bytes", b[:16], []byte{5, 0, 0, 2, 0, 0, 0, 0, 0, 0, 0, 2, 0, 0, 1, 0x2c})
	for _, c := range []struct {
		next  int
		pages []int
		page  int
		want  api.Errno
	}{{1, nil, 512, api.ErrPage}, {0, []int{3, 3}, 512, api.ErrOrder}, {0, []int{1}, 512, api.ErrPage}, {0, nil, 500, api.ErrArg}} {
		got, e := free.Encode(c.next, c.pages, c.page)
		same(t, "Encode that refuses", e, c.want)
		same(t, "bytes beside the error", len(got), 0)
	}
	next, pages, e := free.Decode(b)
	same(t, "Decode", e, api.OK)
	same(t, "next", next, 0)
	sameList(t, "pages", pages, []int{2, 300})
	b[20]++
	next, pages, e = free.Decode(b)
	same(t, "Decode with another byte", e, api.ErrCorrupt)
	same(t, "next beside the error", next, 0)
	same(t, "pages beside the error", len(pages), 0)
}
