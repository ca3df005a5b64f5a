package cache

// row is a list by age, from whose midst a link is taken in one step.
type row[T any] struct {
	oldest, youngest *link[T]
}

// link stands in one row at most.
type link[T any] struct {
	value          T
	older, younger *link[T]
}

// add puts l, which stands in no row, at the young end.
func (r *row[T]) add(l *link[T]) {
	l.older = r.youngest
	if l.older == nil {
		r.oldest = l
	} else {
		l.older.younger = l
	}
	r.youngest = l
}

// remove takes l out of the row, which it stands in.
func (r *row[T]) remove(l *link[T]) {
	if l.older == nil {
		r.oldest = l.younger
	} else {
		l.older.younger = l.younger
	}
	if l.younger == nil {
		r.youngest = l.older
	} else {
		l.younger.older = l.older
	}
	l.older, l.younger = nil, nil
}

// renew brings l, which stands in the row, to its young end.
func (r *row[T]) renew(l *link[T]) {
	r.remove(l)
	r.add(l)
}
