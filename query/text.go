package query

import (
	"strconv"
	"strings"

	"espalier/api"
)

// tokens is the question's tokens as it is written.
func (q *Query) tokens() []string {
	var l []string
	if q.condition != nil {
		l = addCondition(append(l, "where"), q.condition)
	}
	if len(q.terms) > 0 {
		l = addRow(append(l, "order", "by"), ",", q.terms, addTerm)
	}
	if q.limited {
		l = append(l, "limit", strconv.Itoa(q.limit))
	}
	return l
}

func addCondition(l []string, c condition) []string {
	switch c := c.(type) {
	case comparison:
		return append(l, c.name, c.sign, printed(c.literal))
	case among:
		return append(addRow(append(l, c.name, "in", "("), ",", c.literals, addLiteral), ")")
	case between:
		return append(l, c.name, "between", printed(c.from), "and", printed(c.to))
	case isNull:
		return append(l, c.name, "is", "null")
	case not:
		return addPart(append(l, "not"), c, c.of)
	case and:
		return addRow(l, "and", c, func(l []string, part condition) []string { return addPart(l, c, part) })
	case or:
		return addRow(l, "or", c, func(l []string, part condition) []string { return addPart(l, c, part) })
	}
	return l
}

// addPart adds a condition that stands within another one, in brackets where it were read otherwise without them.
func addPart(l []string, whole, part condition) []string {
	if tightness(part) >= tightness(whole) {
		return addCondition(l, part)
	}
	return append(addCondition(append(l, "("), part), ")")
}

// tightness is greater of what is read as one ahead of others.
func tightness(c condition) int {
	switch c.(type) {
	case or:
		return 0
	case and:
		return 1
	}
	return 2
}

func addRow[T any](l []string, link string, row []T, add func([]string, T) []string) []string {
	for i, x := range row {
		if i > 0 {
			l = append(l, link)
		}
		l = add(l, x)
	}
	return l
}

func addLiteral(l []string, literal api.Item) []string { return append(l, printed(literal)) }

func addTerm(l []string, t term) []string {
	if t.falls {
		return append(l, t.name, "desc")
	}
	return append(l, t.name)
}

// laidOut is tokens with blanks where they stand between two.
func laidOut(tokens []string) string {
	var b strings.Builder
	for i, text := range tokens {
		if i > 0 && tokens[i-1] != "(" && text != ")" && text != "," {
			b.WriteByte(' ')
		}
		b.WriteString(text)
	}
	return b.String()
}
