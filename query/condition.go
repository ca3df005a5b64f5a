package query

import (
	"slices"

	"espalier/api"
)

// condition is one of the types below.
type condition any

type (
	comparison struct {
		name, sign string
		literal    api.Item
	}
	among struct {
		name     string
		literals []api.Item
	}
	between struct {
		name     string
		from, to api.Item
	}
	isNull struct{ name string }
	not    struct{ of condition }
	and    []condition
	or     []condition
)

// holds tells whether a condition holds of a record.
func holds(c condition, r api.Record) bool {
	switch c := c.(type) {
	case comparison:
		return meaning(c.sign)(standing{valueOf(c.name, r), c.literal})
	case among:
		value := valueOf(c.name, r)
		return slices.ContainsFunc(c.literals, func(literal api.Item) bool { return standing{value, literal}.alike() })
	case between:
		value := valueOf(c.name, r)
		return standing{value, c.from}.notLess() && standing{value, c.to}.notGreater()
	case isNull:
		return valueOf(c.name, r).Kind == api.Null
	case not:
		return !holds(c.of, r)
	case and:
		return !slices.ContainsFunc(c, func(part condition) bool { return !holds(part, r) })
	case or:
		return slices.ContainsFunc(c, func(part condition) bool { return holds(part, r) })
	}
	return false
}

// valueOf is a record's item of that name; Null, if it has none.
func valueOf(name string, r api.Record) api.Item {
	if name == nameOfKey {
		return r.Key
	}
	for _, f := range r.Fields {
		if f.Name == name {
			return f.Item
		}
	}
	return api.Item{Kind: api.Null}
}

// joinedByAnd is the And of these, joinedByOr the Or: of one it is that one, and what is an And (an Or) itself stands there by its parts.
func joinedByAnd(l []condition) condition {
	var parts and
	for _, c := range l {
		switch c := c.(type) {
		case and:
			parts = append(parts, c...)
		default:
			parts = append(parts, c)
		}
	}
	if len(parts) == 1 {
		return parts[0]
	}
	return parts
}

func joinedByOr(l []condition) condition {
	var parts or
	for _, c := range l {
		switch c := c.(type) {
		case or:
			parts = append(parts, c...)
		default:
			parts = append(parts, c)
		}
	}
	if len(parts) == 1 {
		return parts[0]
	}
	return parts
}

func turnedIf(turned bool, c condition) condition {
	if turned {
		return not{c}
	}
	return c
}
