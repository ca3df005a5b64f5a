package pager_test

import (
	"bytes"
	"fmt"
	"slices"
	"testing"

	"espalier/api"
)

const spareRoom = 64

// roomy lays b into memory of its own, with marked spare room behind it.
func roomy(b []byte) []byte {
	return append(bytes.Clone(b), bytes.Repeat([]byte{0xa5}, spareRoom)...)[:len(b)]
}

// scribble writes over a list and the spare room behind it.
func scribble[T any](l []T, with T) {
	l = l[:cap(l)]
	for i := range l {
		l[i] = with
	}
}

func untouched(t *testing.T, what string, b, want []byte) {
	t.Helper()
	sameBytes(t, what+": what was handed in", b, want)
	sameBytes(t, what+": the spare room", b[len(b):len(b)+spareRoom], bytes.Repeat([]byte{0xa5}, spareRoom))
}

// P11.13: what Write is handed is not changed, and may be written over afterwards.
func TestWhatWriteIsHanded(t *testing.T) {
	d, p := both(t, 12)
	x := begun(t, p)
	takes(t, x, 2, 3)
	one, two, three := roomy(page(50)), roomy(page(51)), roomy(page(52))
	same(t, "Write", x.Write(2, one), api.OK)
	same(t, "Write again", x.Write(2, two), api.OK)
	same(t, "Write", x.Write(3, three), api.OK)
	short, long := roomy(page(1)[:511]), roomy(append(page(1), 9))
	same(t, "Write of too few", x.Write(2, short), api.ErrSize)
	same(t, "Write of too many", x.Write(2, long), api.ErrSize)
	same(t, "Write of no page", x.Write(9, three), api.ErrPage)
	untouched(t, "Write", one, page(50))
	untouched(t, "Write again", two, page(51))
	untouched(t, "Write of too few", short, page(1)[:511])
	untouched(t, "Write of too many", long, append(page(1), 9))
	scribble(one, 0x71)
	scribble(two, 0x72)
	reads(t, x, 2, page(51))
	writes(t, x, 2, 53, api.OK)
	sameBytes(t, "an old argument", two, bytes.Repeat([]byte{0x72}, 512))
	commits(t, x, 1)
	untouched(t, "Commit", three, page(52))
	scribble(three, 0x73)
	sameBytes(t, "the device's", onDevice(d, 2), page(53))
	sameBytes(t, "the device's", onDevice(d, 3), page(52))
	v := viewed(t, p)
	same(t, "Write of a view", v.Write(2, one), api.ErrState)
	sameBytes(t, "an old argument", one, bytes.Repeat([]byte{0x71}, 512))
}

// P11.13: what Read answers shares no memory with the pager, with the device, or with another answer.
func TestReadsAreNewMemory(t *testing.T) {
	s := stuffed(t, 16)
	w := viewed(t, s.p)
	x := begun(t, s.p)
	takes(t, x, 10, 11)
	writes(t, x, 10, 80, api.OK)
	want := map[int][]byte{2: page(1), 7: zero, 9: listPage(0, 3, 8), 10: page(80), 11: zero}
	var answers [][]byte
	for range 3 {
		for n := range want {
			for _, room := range []api.Room{x, s.v, w} {
				if b, e := room.Read(n); e == api.OK {
					answers = append(answers, b)
				}
			}
		}
	}
	for i, b := range answers {
		scribble(b, byte(100+i))
	}
	for i, b := range answers {
		sameBytes(t, "an answer written over", b[:cap(b)], bytes.Repeat([]byte{byte(100 + i)}, cap(b)))
	}
	for n, b := range want {
		reads(t, x, n, b)
	}
	reads(t, w, 2, page(1))
	reads(t, s.v, 2, page(1))
	old, _ := x.Read(10)
	writes(t, x, 10, 81, api.OK)
	sameBytes(t, "an answer stays", old, page(80))
	b, _ := x.Read(10)
	scribble(b, 9)
	commits(t, x, 3)
	sameBytes(t, "the device's", onDevice(s.d, 10), page(81))
	sameBytes(t, "the device's", onDevice(s.d, 2), page(1))
	opened(t, s.d)
}

// P11.13: so is what Views answers.
func TestViewsAreNewMemory(t *testing.T) {
	_, p := both(t, 8)
	for txn := range 5 {
		viewed(t, p)
		viewed(t, p)
		commits(t, begun(t, p), txn+1)
	}
	one, two := p.Views(), p.Views()
	scribble(one, -9)
	sameList(t, "another answer", two, row(0, 5))
	sameList(t, "Views", p.Views(), row(0, 5))
	viewed(t, p)
	sameList(t, "Views", p.Views(), row(0, 6))
	scribble(two, -8)
	same(t, "an answer written over", slices.Max(one[:cap(one)]), -9)
	sameList(t, "Views", p.Views(), row(0, 6))
	x := begun(t, p)
	takes(t, x, 2)
	frees(t, x, api.OK, 2)
	commits(t, x, 6)
	y := begun(t, p)
	takes(t, y, 3) // 2 is the list's
}

// P11.2, P11.9: the metas that are answered are copies.
func TestMetasAreCopies(t *testing.T) {
	s := stuffed(t, 16)
	m, n := s.p.Meta(), s.v.Meta()
	m.Txn, m.High, m.Root = 99, 3, 9
	n.High, n.Root = 2, 9
	same(t, "Meta", s.p.Meta().Txn, 2)
	same(t, "Meta of the view", s.v.Meta().High, 10)
	reads(t, s.v, 9, onDevice(s.d, 9))
	roots(t, begun(t, s.p), 2, 1)
}

// P11.2: the questions change nothing.
func TestQuestionsChangeNothing(t *testing.T) {
	s := stuffed(t, 16)
	x := begun(t, s.p)
	takes(t, x, 10)
	for range 3 {
		was := look(s.d, s.p)
		s.p.Up()
		for n := -1; n < 17; n++ {
			x.Read(n)
			x.Fresh(n)
			x.Spare(n)
			s.v.Read(n)
			s.v.Fresh(n)
			s.v.Spare(n)
		}
		x.Root()
		unchanged(t, "questions", look(s.d, s.p), was)
	}
	takes(t, x, 11)
	same(t, "fresh are", fmt.Sprint(x.Fresh(9), x.Fresh(10), x.Fresh(11), x.Fresh(12)), "false true true false")
}
