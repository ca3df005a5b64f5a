package query_test

import (
	"math"
	"math/rand"
	"slices"
	"strconv"
	"strings"

	"espalier/api"
)

// literal is one as it may stand in a question, as Text writes it, and the item that it says.
type literal struct {
	source, printed string
	item            api.Item
}

func literals() []literal {
	return []literal{
		{"1", "1", num(1)}, {"2", "2", num(2)}, {"3", "3", num(3)}, {"-7", "-7", num(-7)}, {"300", "300", num(300)},
		{"2.5", "0x1.4p+01", float(2.5)}, {"2.0", "0x1p+01", float(2)}, {"0x1p+01", "0x1p+01", float(2)}, {"0.0", "0x0p+00", float(0)}, {"-0.0", "-0x0p+00", bitsOf(1 << 63)}, {"inf", "inf", float(math.Inf(1))},
		{`"a"`, `"a"`, word("a")}, {`"b c"`, `"b c"`, word("b c")}, {`"\x41\"\\"`, `"A\"\\"`, word(`A"\`)}, {`""`, `""`, word("")}, {`"\x00"`, `"\x00"`, word("\x00")},
		{"x'00ff'", "x'00ff'", bin("\x00\xff")}, {"x''", "x''", bin("")}, {"true", "true", truth(true)}, {"false", "false", truth(false)},
	}
}

// drawnLiteral is mostly one of a few, so that questions and records meet.
func drawnLiteral(r *rand.Rand) literal {
	l := literals()
	if r.Intn(3) > 0 {
		return l[r.Intn(3)]
	}
	return l[r.Intn(len(l))]
}

// cond is a condition: what is a sign, or one of in, between, null, not, and, or.
type cond struct {
	what     string
	name     string
	literals []literal
	parts    []*cond
}

// asked is a question: limit is below 0, if there is none.
type asked struct {
	cond  *cond
	terms []sorting
	limit int
}

type sorting struct {
	name string
	desc bool
}

func namesOfFields() []string { return []string{"a", "b", "c", "d"} }

func drawnName(r *rand.Rand) string {
	switch r.Intn(8) {
	case 0:
		return "key"
	case 1:
		return "none"
	}
	return namesOfFields()[r.Intn(4)]
}

func drawnTest(r *rand.Rand) *cond {
	c := &cond{name: drawnName(r)}
	count := 1
	switch r.Intn(8) {
	case 0, 1, 2:
		c.what = "="
	case 3, 4:
		c.what = []string{"<", "<=", ">", ">=", "<>"}[r.Intn(5)]
	case 5:
		c.what, count = "in", 1+r.Intn(3)
	case 6:
		c.what, count = "between", 2
	case 7:
		c.what, count = "null", 0
	}
	for range count {
		c.literals = append(c.literals, drawnLiteral(r))
	}
	return c
}

// drawnCond draws a condition of that many tests.
func drawnCond(r *rand.Rand, tests int) *cond {
	switch {
	case r.Intn(6) == 0:
		return &cond{what: "not", parts: []*cond{drawnCond(r, tests)}}
	case tests == 1:
		return drawnTest(r)
	}
	c := &cond{what: []string{"and", "and", "or"}[r.Intn(3)]}
	for tests > 0 {
		n := 1 + r.Intn(tests)
		if len(c.parts) == 0 {
			n = 1 + r.Intn(tests-1)
		}
		c.parts, tests = append(c.parts, drawnCond(r, n)), tests-n
	}
	return c
}

// drawnQuestion draws a question of that many tests.
func drawnQuestion(r *rand.Rand, tests int) *asked {
	a := &asked{limit: -1}
	switch r.Intn(8) {
	case 0:
	case 1, 2, 3:
		a.cond = drawnCond(r, tests)
	default:
		a.cond = &cond{what: "and"}
		for range tests {
			a.cond.parts = append(a.cond.parts, drawnTest(r))
		}
		if tests == 1 {
			a.cond = a.cond.parts[0]
		}
	}
	for desc := r.Intn(2) == 0; len(a.terms) < 4 && r.Intn(2) == 0; {
		a.terms = append(a.terms, sorting{drawnName(r), desc})
		desc = desc != (r.Intn(6) == 0)
	}
	if r.Intn(4) == 0 {
		a.limit = r.Intn(6)
	}
	return a
}

// source is the question's tokens, as somebody may write them: with more brackets than are needed, and other words for the same.
func (a *asked) source(r *rand.Rand) []string {
	var l []string
	if a.cond != nil {
		l = append([]string{"where"}, a.cond.source(r)...)
	}
	for i, t := range a.terms {
		if i == 0 {
			l = append(l, "order", "by", t.name)
		} else {
			l = append(l, ",", t.name)
		}
		if t.desc {
			l = append(l, "desc")
		} else if r.Intn(2) == 0 {
			l = append(l, "asc")
		}
	}
	if a.limit >= 0 {
		l = append(l, "limit", strconv.Itoa(a.limit))
	}
	return l
}

func bracketed(l []string) []string { return append(append([]string{"("}, l...), ")") }

func (c *cond) source(r *rand.Rand) []string {
	l := c.bare(r)
	if r.Intn(8) == 0 {
		l = bracketed(l)
	}
	return l
}

// bare is a condition's tokens without brackets about it all.
func (c *cond) bare(r *rand.Rand) []string {
	switch c.what {
	case "not":
		p := c.parts[0]
		if r.Intn(2) == 0 && slices.Contains([]string{"in", "between", "null"}, p.what) {
			l := p.bare(r)
			at := 1
			if p.what == "null" {
				at = 2
			}
			return slices.Insert(l, at, "not")
		}
		return append([]string{"not"}, p.inside(r, "and", "or")...)
	case "and", "or":
		var l []string
		for i, p := range c.parts {
			if i > 0 {
				l = append(l, c.what)
			}
			if c.what == "and" {
				l = append(l, p.inside(r, "or")...)
			} else {
				l = append(l, p.source(r)...)
			}
		}
		return l
	}
	return c.testTokens(func(x literal) string { return x.source })
}

// inside is a condition's tokens where some kinds need brackets.
func (c *cond) inside(r *rand.Rand, needing ...string) []string {
	if slices.Contains(needing, c.what) {
		return bracketed(c.source(r))
	}
	return c.source(r)
}

func (c *cond) testTokens(written func(literal) string) []string {
	switch c.what {
	case "null":
		return []string{c.name, "is", "null"}
	case "between":
		return []string{c.name, "between", written(c.literals[0]), "and", written(c.literals[1])}
	case "in":
		l := []string{c.name, "in"}
		for i, x := range c.literals {
			l = append(l, []string{"(", ","}[min(i, 1)], written(x))
		}
		return append(l, ")")
	}
	return []string{c.name, c.what, written(c.literals[0])}
}

// loose is tokens as a text, with blanks of any kind between them, and none where none is needed.
func loose(r *rand.Rand, tokens []string) string {
	text := drawnBlanks(r, 0)
	for i, s := range tokens {
		if i > 0 {
			text += drawnBlanks(r, parted(tokens[i-1], s))
		}
		text += s
	}
	return text + drawnBlanks(r, 0)
}

// parted is 1, if two tokens need a blank between them.
func parted(a, b string) int {
	last, first := a[len(a)-1], b[0]
	switch {
	case strings.IndexByte("<>=", last) >= 0 && strings.IndexByte("<>=", first) >= 0:
		return 1
	case strings.IndexByte(`(),<>="'`, last) >= 0 || strings.IndexByte(`(),<>="`, first) >= 0:
		return 0
	}
	return 1
}

func drawnBlanks(r *rand.Rand, least int) string {
	n := least
	for r.Intn(4) == 0 {
		n++
	}
	text := ""
	for range n {
		text += []string{" ", " ", "\t", "\n", "\r"}[r.Intn(5)]
	}
	return text
}

// flat is a condition as it is read: an And's parts that are Ands give it their parts, likewise an Or's.
func (c *cond) flat() *cond {
	out := &cond{what: c.what, name: c.name, literals: c.literals}
	for _, p := range c.parts {
		p = p.flat()
		if p.what == c.what && c.what != "not" {
			out.parts = append(out.parts, p.parts...)
		} else {
			out.parts = append(out.parts, p)
		}
	}
	return out
}

// text is what Text has to answer.
func (a *asked) text() string {
	var l []string
	if a.cond != nil {
		l = append(l, "where "+a.cond.flat().text())
	}
	for i, t := range a.terms {
		s := t.name
		if t.desc {
			s += " desc"
		}
		if i > 0 {
			l[len(l)-1] += ", " + s
		} else {
			l = append(l, "order by "+s)
		}
	}
	if a.limit >= 0 {
		l = append(l, "limit "+strconv.Itoa(a.limit))
	}
	return strings.Join(l, " ")
}

func (c *cond) text() string {
	var l []string
	for _, p := range c.parts {
		s := p.text()
		if p.what == "or" || c.what == "not" && p.what == "and" {
			s = "(" + s + ")"
		}
		l = append(l, s)
	}
	switch c.what {
	case "not":
		return "not " + l[0]
	case "and", "or":
		return strings.Join(l, " "+c.what+" ")
	}
	s := strings.Join(c.testTokens(func(x literal) string { return x.printed }), " ")
	if c.what == "in" {
		s = strings.NewReplacer(" in ( ", " in (", " , ", ", ").Replace(s)
		s = s[:len(s)-2] + ")"
	}
	return s
}

// drawnItem is mostly one of a few, so that records meet the questions, and one another.
func drawnItem(r *rand.Rand) api.Item {
	switch r.Intn(8) {
	case 0:
		return null()
	case 1:
		return []api.Item{list(), list(num(1)), list(null()), word("aa"), bin("a"), num(4)}[r.Intn(6)]
	}
	return drawnLiteral(r).item
}

func drawnRecord(r *rand.Rand) api.Record {
	record := api.Record{Key: drawnItem(r)}
	for _, name := range namesOfFields() {
		if r.Intn(4) > 0 {
			record.Fields = append(record.Fields, api.Field{Name: name, Item: drawnItem(r)})
		}
	}
	return record
}
