package free_test

import (
	"fmt"
	"testing"

	"espalier/free"
)

// step does the same to a list and to its model.
type step struct {
	*testing.T
	l   *free.List
	m   *model
	met map[string]int // how often each answer was met
}

func (s *step) count(what string) { s.met[what]++ }

func (s *step) take() {
	n, ok := s.l.Take()
	want, is := s.m.take()
	same(s.T, "Take", n, want)
	same(s.T, "whether Take took", ok, is)
	s.count(fmt.Sprint("take ", ok))
}

func (s *step) give(page, txn int) {
	e := s.l.Give(page, txn)
	same(s.T, fmt.Sprintf("Give(%d, %d)", page, txn), e, s.m.give(page, txn))
	s.count(fmt.Sprint("give ", e))
}

func (s *step) release(oldest int) {
	n := s.l.Release(oldest)
	same(s.T, fmt.Sprintf("Release(%d)", oldest), n, s.m.release(oldest))
	s.count(fmt.Sprint("release ", n > 0))
}

func (s *step) mark() { same(s.T, "Mark", s.l.Mark(), s.m.mark()) }

func (s *step) back(mark int) {
	e := s.l.Back(mark)
	same(s.T, fmt.Sprintf("Back(%d)", mark), e, s.m.back(mark))
	s.count(fmt.Sprint("back ", e))
	if age := s.m.made - mark; age >= 15 && age <= 17 {
		s.count(fmt.Sprintf("back %d of %d Marks ago", e, age))
	}
}

// P10.1 to P10.6: long runs beside a plain map. Small lists meet pages that are there, and empty ones; many marks meet old ones.
func TestBesideAMap(t *testing.T) {
	r := chance()
	met := map[string]int{}
	for run := range 60 {
		most := 4 << (run % 6)
		s := &step{t, nil, &model{with: map[int]int{}}, met}
		var pages []int
		for n := 2; n < most; n++ {
			if r.Intn(3) == 0 {
				pages = append(pages, n)
				s.m.with[n] = 0
			}
		}
		r.Shuffle(len(pages), func(i, j int) { pages[i], pages[j] = pages[j], pages[i] })
		s.l = list(t, pages...)
		for range 2500 {
			switch r.Intn(12) {
			case 0, 1, 2:
				s.take()
			case 3, 4, 5, 6:
				s.give(r.Intn(most+1), r.Intn(12)-1)
			case 7:
				s.release(r.Intn(14) - 2)
			case 8, 9, 10:
				if r.Intn(3) < 2 {
					s.mark()
				}
			case 11:
				s.back(s.m.made + 2 - r.Intn(21))
			}
			if r.Intn(4) == 0 {
				stands(t, "beside a map", s.l, s.m.free(), s.m.waiting())
			}
			if t.Failed() {
				t.FailNow()
			}
		}
		stands(t, "at the end", s.l, s.m.free(), s.m.waiting())
	}
	for _, what := range []string{"take true", "take false", "give 0", "give 1", "give 30", "give 100", "release true", "release false", "back 0", "back 1", "back 0 of 15 Marks ago", "back 1 of 15 Marks ago", "back 1 of 16 Marks ago", "back 1 of 17 Marks ago"} {
		if met[what] < 20 {
			t.Errorf("%s was met %d times", what, met[what])
		}
	}
}

// P10.6: what each good mark goes back to, whatever the others did: lists that are the same but for the Back.
func TestEveryGoodMark(t *testing.T) {
	for mark := 5; mark <= 20; mark++ {
		r := chance()
		s := &step{t, list(t, row(2, 30)...), &model{with: map[int]int{}}, map[string]int{}}
		for _, n := range row(2, 30) {
			s.m.with[n] = 0
		}
		for range 20 {
			s.mark()
			for range 12 {
				switch r.Intn(3) {
				case 0:
					s.take()
				case 1:
					s.give(2+r.Intn(60), r.Intn(6))
				case 2:
					s.release(r.Intn(6))
				}
			}
		}
		s.back(mark)
		stands(t, fmt.Sprintf("Back(%d)", mark), s.l, s.m.free(), s.m.waiting())
		for oldest := range 6 {
			s.release(oldest)
		}
		stands(t, fmt.Sprintf("released behind Back(%d)", mark), s.l, s.m.free(), s.m.waiting())
	}
}
