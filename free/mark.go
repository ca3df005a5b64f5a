package free

import (
	"slices"

	"espalier/api"
)

// mostMarks is how many Marks, itself among them, a mark is good for.
const mostMarks = 16

// A mark knows of the pages that have changed behind it, up to the next mark, how they stood.
type mark struct {
	number int
	before map[int]int
}

// Mark notes how it stands; Back goes there.
func (l *List) Mark() int {
	l.last++
	l.forget()
	l.marks = append(l.marks, mark{number: l.last, before: map[int]int{}})
	return l.last
}

func (l *List) Back(mark int) api.Errno {
	at, ok := l.find(mark)
	if !ok {
		return api.ErrArg
	}
	// The latest goes first: where several marks know a page, the earliest has the last word.
	for _, m := range slices.Backward(l.marks[at:]) {
		for page, stand := range m.before {
			l.set(page, stand)
		}
		clear(m.before)
	}
	gone := l.marks[at+1:]
	l.marks = l.marks[:at+1]
	clear(gone)
	return api.OK
}

// note keeps how the page stands, unless it has changed behind the last mark before.
func (l *List) note(page int) {
	if len(l.marks) == 0 {
		return
	}
	before := l.marks[len(l.marks)-1].before
	if _, ok := before[page]; !ok {
		before[page] = l.stand(page)
	}
}

// forget drops the marks that are too old. No later one needs what they know.
func (l *List) forget() {
	l.marks = slices.DeleteFunc(l.marks, func(m mark) bool { return l.last-m.number >= mostMarks })
}

func (l *List) find(number int) (int, bool) {
	at := slices.IndexFunc(l.marks, func(m mark) bool { return m.number == number })
	return at, at >= 0
}
