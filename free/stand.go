package free

import (
	"cmp"
	"slices"
)

func isFree(stand int) bool { return stand == free }

func waits(stand int) bool { return stand > free }

func either(int) bool { return true }

// rising tells for which keys what is kept is of the kind that is asked for, the least first.
func rising[K cmp.Ordered, V any](kept map[K]V, is func(V) bool) []K {
	var told []K
	for k, v := range kept {
		if is(v) {
			told = append(told, k)
		}
	}
	slices.Sort(told)
	return told
}

func (l *List) has(page int) bool { return l.stand(page) != absent }

func (l *List) stand(page int) int {
	if stand, ok := l.kept[page]; ok {
		return stand
	}
	return absent
}

// change is the way of all that may be taken back: a Back needs to know how the page stood.
func (l *List) change(page, stand int) {
	l.note(page)
	l.set(page, stand)
}

func (l *List) set(page, stand int) {
	if stand == absent {
		delete(l.kept, page)
	} else {
		l.kept[page] = stand
	}
	l.ready.set(page, isFree(stand))
}
