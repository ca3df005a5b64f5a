package query

import (
	"espalier/api"
	"espalier/tuple"
)

// standing is a record's value beside a literal.
type standing struct{ value, literal api.Item }

// meaning is what a sign says of the two; nil, if it is no test's sign.
func meaning(sign string) func(standing) bool {
	switch sign {
	case "=":
		return standing.alike
	case "<>":
		return standing.unlike
	case "<":
		return standing.less
	case "<=":
		return standing.notGreater
	case ">":
		return standing.greater
	case ">=":
		return standing.notLess
	}
	return nil
}

// No literal is null, so that unlike alone would hold of null.
func (s standing) alike() bool  { return s.compared() == 0 }
func (s standing) unlike() bool { return s.value.Kind != api.Null && s.compared() != 0 }

func (s standing) less() bool       { return s.ofOneClass() && s.compared() < 0 }
func (s standing) notGreater() bool { return s.ofOneClass() && s.compared() <= 0 }
func (s standing) greater() bool    { return s.ofOneClass() && s.compared() > 0 }
func (s standing) notLess() bool    { return s.ofOneClass() && s.compared() >= 0 }

func (s standing) compared() int { return compared(s.value, s.literal) }

func (s standing) ofOneClass() bool { return classOf(s.value) == classOf(s.literal) }

// class is kinds of items that stand to one another as less and greater.
type class struct{ least, greatest int }

func classOf(item api.Item) class {
	switch item.Kind {
	case api.False, api.True:
		return class{api.False, api.True}
	}
	return class{item.Kind, item.Kind}
}

func compared(a, b api.Item) int { return tuple.Compare([]api.Item{a}, []api.Item{b}) }
