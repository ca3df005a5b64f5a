package query

import (
	"iter"
	"slices"

	"espalier/api"
)

// term is a name that records are sorted by, and whether they fall.
type term struct {
	name  string
	falls bool
}

// falls tells whether the last term does: the key goes with it.
func (q *Query) falls() bool { return len(q.terms) > 0 && q.terms[len(q.terms)-1].falls }

// order tells how two records stand to one another.
func (q *Query) order(a, b api.Record) int {
	for _, t := range q.terms {
		if n := orderBy(t, a, b); n != 0 {
			return n
		}
	}
	return orderBy(term{nameOfKey, q.falls()}, a, b)
}

func orderBy(t term, a, b api.Record) int {
	if t.falls {
		a, b = b, a
	}
	return compared(valueOf(t.name, a), valueOf(t.name, b))
}

// sorted is what fits of what is told, in order, as many as are asked for.
func (q *Query) sorted(told iter.Seq2[api.Record, api.Errno]) ([]api.Record, api.Errno) {
	l, e := q.gathered(told, all)
	if e != api.OK {
		return nil, e
	}
	slices.SortStableFunc(l, q.order)
	return l[:min(len(l), q.most())], api.OK
}
