package free_test

import (
	"fmt"
	"math"
	"testing"

	"espalier/api"
	"espalier/free"
)

func marks(t *testing.T, l *free.List, want int) {
	t.Helper()
	same(t, "Mark", l.Mark(), want)
}

func backs(t *testing.T, l *free.List, mark int, want api.Errno) {
	t.Helper()
	same(t, fmt.Sprintf("Back(%d)", mark), l.Back(mark), want)
}

// P10.6: 1 the first time, one more each time, whatever goes on between.
func TestMarksRise(t *testing.T) {
	l := list(t, 5, 6, 7)
	for i := 1; i <= 200; i++ {
		marks(t, l, i)
		switch i % 4 {
		case 1:
			backs(t, l, i, api.OK)
		case 2:
			backs(t, l, i-1, api.OK)
		case 3:
			backs(t, l, i-1, api.ErrArg)
		}
	}
}

// P10.6: marks that never were.
func TestBackOfNoMark(t *testing.T) {
	l := list(t, 5)
	gives(t, l, 6, 3, api.OK)
	never := []int{math.MinInt, -16, -1, 0, 4, 5, 16, 17, 1 << 32, 1<<32 + 1, math.MaxInt}
	for _, m := range append(never, 1, 2, 3) {
		backs(t, l, m, api.ErrArg)
	}
	marks(t, l, 1)
	marks(t, l, 2)
	marks(t, l, 3)
	takes(t, l, 5)
	for _, m := range never {
		backs(t, l, m, api.ErrArg)
		stands(t, "nothing has changed", l, nil, []int{6})
	}
	backs(t, l, 1, api.OK)
	stands(t, "back", l, []int{5}, []int{6})
}

// P10.6: all is as it was, each page with its number.
func TestBack(t *testing.T) {
	l := list(t, 10, 20, 30)
	gives(t, l, 11, 4, api.OK)
	gives(t, l, 12, 5, api.OK)
	gives(t, l, 13, 6, api.OK)
	marks(t, l, 1)
	takes(t, l, 10, 20)
	gives(t, l, 10, 9, api.OK) // free before, waits now
	same(t, "Release", l.Release(5), 2)
	takes(t, l, 11)            // waited before, is not there now
	gives(t, l, 40, 0, api.OK) // not there before, free now
	gives(t, l, 50, 7, api.OK) // not there before, waits now
	takes(t, l, 12)
	gives(t, l, 12, 8, api.OK) // waited with 5 before, with 8 now
	stands(t, "changed", l, []int{30, 40}, []int{10, 12, 13, 50})
	backs(t, l, 1, api.OK)
	stands(t, "back", l, []int{10, 20, 30}, []int{11, 12, 13})
	for oldest := 3; oldest <= 9; oldest++ {
		want := 0
		if oldest >= 4 && oldest <= 6 {
			want = 1
		}
		same(t, fmt.Sprintf("Release(%d) behind the Back", oldest), l.Release(oldest), want)
	}
	takes(t, l, 10, 11, 12, 13, 20, 30)
	takesNone(t, l)
	backs(t, l, 1, api.OK)
	stands(t, "back again", l, []int{10, 20, 30}, []int{11, 12, 13})
}

// P10.6: with each kind of change alone, twice, and with nothing changed.
func TestBackOfEachChange(t *testing.T) {
	for what, change := range map[string]func(l *free.List){
		"nothing":       func(l *free.List) {},
		"Take":          func(l *free.List) { l.Take() },
		"Take of all":   func(l *free.List) { l.Take(); l.Take(); l.Take() },
		"Give":          func(l *free.List) { l.Give(2, 0) },
		"Give, waiting": func(l *free.List) { l.Give(2, 1) },
		"Release":       func(l *free.List) { l.Release(1) },
		"Release all":   func(l *free.List) { l.Release(math.MaxInt) },
		"Mark":          func(l *free.List) { l.Mark(); l.Take(); l.Mark(); l.Release(9) },
		"there and back": func(l *free.List) {
			l.Take()
			l.Give(4, 0)
		},
	} {
		l := list(t, 4, 8)
		gives(t, l, 5, 1, api.OK)
		gives(t, l, 6, 2, api.OK)
		marks(t, l, 1)
		for range 3 {
			change(l)
			backs(t, l, 1, api.OK)
			stands(t, what, l, []int{4, 8}, []int{5, 6})
		}
		same(t, what+": Release(1)", l.Release(1), 1)
		same(t, what+": Release(2)", l.Release(2), 1)
		takes(t, l, 4, 5, 6, 8)
		takesNone(t, l)
	}
}

// aged is a list with a mark that is so many Marks old, all that was free at that mark taken behind it.
func aged(t *testing.T, age int) *free.List {
	t.Helper()
	l := list(t, row(100, 40)...)
	marks(t, l, 1)
	for i := range age {
		takes(t, l, 100+i)
		marks(t, l, i+2)
	}
	return l
}

// P10.6: a mark is good while fewer than sixteen Marks were made behind it.
func TestOldMarks(t *testing.T) {
	for age := range 40 {
		for mark := range age + 4 {
			l := aged(t, age)
			isGood := 1 <= mark && mark <= age+1 && age+1-mark < 16
			if isGood {
				backs(t, l, mark, api.OK)
				stands(t, "back", l, row(99+mark, 41-mark), nil)
			} else {
				backs(t, l, mark, api.ErrArg)
				stands(t, "not back", l, row(100+age, 40-age), nil)
			}
		}
	}
}

// P10.6: the sixteen good ones are good one behind the other, from the last to the first.
func TestBackStepByStep(t *testing.T) {
	l := aged(t, 20)
	for mark := 21; mark >= 6; mark-- {
		backs(t, l, mark, api.OK)
		stands(t, "back", l, row(99+mark, 41-mark), nil)
		backs(t, l, mark+1, api.ErrArg)
	}
	for mark := 5; mark >= 0; mark-- {
		backs(t, l, mark, api.ErrArg)
	}
	backs(t, l, 6, api.OK)
}

// P10.6: the marks behind the one that a Back went to are good no more, itself and those ahead of it are.
func TestMarksBehindABack(t *testing.T) {
	for to := 1; to <= 8; to++ {
		l := aged(t, 7)
		backs(t, l, to, api.OK)
		for mark := to + 1; mark <= 9; mark++ {
			backs(t, l, mark, api.ErrArg)
		}
		marks(t, l, 9)
		for mark := to + 1; mark <= 8; mark++ {
			backs(t, l, mark, api.ErrArg)
		}
		backs(t, l, 9, api.OK)
		for mark := to; mark >= 1; mark-- {
			backs(t, l, mark, api.OK)
			stands(t, "back", l, row(99+mark, 41-mark), nil)
		}
	}
}

// P10.6: Marks count against those ahead of them also when a Back has gone behind them.
func TestMarksGivenUpCountStill(t *testing.T) {
	for again := range 5 {
		l := list(t, 3)
		marks(t, l, 1)
		for i := 2; i <= 10; i++ {
			marks(t, l, i)
		}
		backs(t, l, 1, api.OK)
		for i := range 6 {
			marks(t, l, 11+i)
		}
		takes(t, l, 3)
		for i := range again {
			marks(t, l, 17+i)
		}
		if again == 0 {
			backs(t, l, 1, api.OK) // fifteen Marks behind it
			stands(t, "back", l, []int{3}, nil)
			continue
		}
		backs(t, l, 1, api.ErrArg)
		backs(t, l, 10, api.ErrArg)
		stands(t, "not back", l, nil, nil)
		backs(t, l, 11, api.OK)
		stands(t, "back", l, []int{3}, nil)
	}
}

// P10.6: Back twice to the same mark with changes between, and marks made behind a Back, which know what was changed ahead of them.
func TestBackAgain(t *testing.T) {
	l := list(t, 3, 4, 5, 6)
	marks(t, l, 1)
	takes(t, l, 3)
	marks(t, l, 2)
	takes(t, l, 4)
	backs(t, l, 1, api.OK)
	takes(t, l, 3, 4, 5)
	marks(t, l, 3)
	gives(t, l, 3, 8, api.OK)
	backs(t, l, 2, api.ErrArg)
	backs(t, l, 3, api.OK)
	stands(t, "at 3", l, []int{6}, nil)
	gives(t, l, 4, 0, api.OK)
	backs(t, l, 1, api.OK)
	stands(t, "at 1", l, []int{3, 4, 5, 6}, nil)
	backs(t, l, 3, api.ErrArg)
	takes(t, l, 3)
	backs(t, l, 1, api.OK)
	takes(t, l, 3, 4, 5, 6)
	takesNone(t, l)
}

// P10.6: what was changed ahead of every Mark stays.
func TestBackToTheFirstMark(t *testing.T) {
	l := list(t, 3, 4)
	takes(t, l, 3)
	gives(t, l, 9, 2, api.OK)
	marks(t, l, 1)
	takes(t, l, 4)
	backs(t, l, 1, api.OK)
	stands(t, "at 1", l, []int{4}, []int{9})
}

// P10.6: a great many changes between two marks, and a great many between a mark and its Back.
func TestBackOverManyChanges(t *testing.T) {
	l := list(t, row(2, 65534)...)
	for i := range 3 {
		marks(t, l, 2*i+1)
		for n := 2; n < 40000; n++ {
			takes(t, l, n)
			if n%2 == 0 {
				gives(t, l, n, 1+n%5, api.OK)
			}
		}
		marks(t, l, 2*i+2)
		l.Release(3)
		backs(t, l, 2*i+1, api.OK)
		stands(t, "back", l, row(2, 65534), nil)
	}
}
