package query

import (
	"slices"

	"espalier/api"
	"espalier/ink"
	"espalier/tuple"
)

// road is a way to the records: the table itself (without a name), or one of its indexes.
type road struct {
	name  string
	steps []string   // what it has them sorted by
	fixed []api.Item // what the first steps are fixed to
	edges []edge     // of the step behind these, all of one class
}

// edge is a literal that bounds a name, from below or from above.
type edge struct {
	name    string
	literal api.Item
	above   bool
	within  bool // whether the literal itself is within the bound
}

func (q *Query) bestRoad(indexes []api.Index) road {
	best := q.road("", nil)
	for _, x := range indexes {
		if r := q.road(x.Name, x.Fields); r.isBetter(best) {
			best = r
		}
	}
	return best
}

func (q *Query) road(name string, fields []string) road {
	parts := partsOf(q.condition)
	r := road{name: name, steps: slices.Concat(fields, []string{nameOfKey})}
	for _, step := range r.steps {
		item, is := fixedTo(parts, step)
		if !is {
			r.edges = edgesOf(parts, step)
			break
		}
		r.fixed = append(r.fixed, item)
	}
	return r
}

func (r road) isBounded() bool { return len(r.edges) > 0 }

func (r road) isBetter(other road) bool {
	if len(r.fixed) != len(other.fixed) {
		return len(r.fixed) > len(other.fixed)
	}
	return r.isBounded() && !other.isBounded()
}

// partsOf is what holds of every record that fits. Of these parts tests alone fix and bound a name.
func partsOf(c condition) []condition {
	if l, is := c.(and); is {
		return l
	}
	return []condition{c}
}

// fixedTo is the item that a name is fixed to.
func fixedTo(parts []condition, name string) (api.Item, bool) {
	for _, part := range parts {
		switch c := part.(type) {
		case comparison:
			if c.name == name && c.sign == "=" {
				return c.literal, true
			}
		case isNull:
			if c.name == name {
				return api.Item{Kind: api.Null}, true
			}
		}
	}
	return api.Item{}, false
}

// edgesOf is the edges of a name that are of the class of the first one.
func edgesOf(parts []condition, name string) []edge {
	var l []edge
	for _, part := range parts {
		for _, x := range edgesIn(part) {
			if x.name == name && (len(l) == 0 || classOf(x.literal) == classOf(l[0].literal)) {
				l = append(l, x)
			}
		}
	}
	return l
}

func edgesIn(part condition) []edge {
	switch c := part.(type) {
	case comparison:
		switch c.sign {
		case ">", ">=":
			return []edge{{c.name, c.literal, false, c.sign == ">="}}
		case "<", "<=":
			return []edge{{c.name, c.literal, true, c.sign == "<="}}
		}
	case between:
		return []edge{{c.name, c.from, false, true}, {c.name, c.to, true, true}}
	}
	return nil
}

// stretch is from where to where the records lie on the road that may fit (open: to the end).
func (r road) stretch() (lo, hi []byte, open bool) {
	if r.isBounded() {
		return r.end(false), r.end(true), false
	}
	if len(r.fixed) == 0 {
		return nil, nil, true
	}
	return r.prefix(), behind(r.prefix()), false
}

// prefix is the bytes of the fixed items.
func (r road) prefix() []byte {
	var b []byte
	for _, item := range r.fixed {
		b = append(b, encoded(item)...)
	}
	return b
}

const firstKind = 0x10 // what an item's bytes begin with, less its kind

// end is the lower or the upper end of a bounded road: where the first such edge is, or else its class.
func (r road) end(above bool) []byte {
	for _, x := range r.edges {
		if x.above == above {
			return x.place(r.prefix())
		}
	}
	kinds := classOf(r.edges[0].literal)
	if above {
		return append(r.prefix(), byte(firstKind+kinds.greatest+1))
	}
	return append(r.prefix(), byte(firstKind+kinds.least))
}

// place is where an edge is, behind a prefix: ahead of all that has the literal there, or behind all that has.
func (x edge) place(prefix []byte) []byte {
	b := append(prefix, encoded(x.literal)...)
	if x.above == x.within {
		return behind(b)
	}
	return b
}

// encoded is an item's bytes: what a question says are items that may be, and short ones.
func encoded(item api.Item) []byte {
	b, _ := tuple.Encode(item)
	return b
}

// behind is the least text behind all that begin with these bytes. They begin with an item, and no item with FF, so there is one.
func behind(b []byte) []byte {
	out, _ := ink.Behind(b)
	return out
}

// sorting tells whether what comes along the road is sorted afterwards, and else whether it is gone along backwards.
func (q *Query) sorting(r road) (sort, reverse bool) {
	fixed, open := r.steps[:len(r.fixed)], r.steps[len(r.fixed):]
	var names []string
	for _, t := range q.terms {
		if slices.Contains(fixed, t.name) {
			continue
		}
		if t.falls != q.falls() {
			return true, false
		}
		names = append(names, t.name)
	}
	if len(open) == 0 && len(names) == 0 {
		return false, false
	}
	if !slices.Equal(append(names, nameOfKey), open) {
		return true, false
	}
	return false, q.falls()
}
