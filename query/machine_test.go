package query_test

import (
	"regexp"
	"slices"
	"strings"

	"espalier/api"
	"espalier/tuple"
)

// The grammar once more, as a machine that takes token after token: it says of any text what Parse has to answer.

var (
	aToken   = regexp.MustCompile(`^(?s:"(?:[^"\\]|\\.)*"|x'[^']*'|<>|<=|>=|[(),=<>]|[^ \t\n\r(),=<>"']+)`)
	aName    = regexp.MustCompile(`^[a-z][a-z0-9_.-]{0,63}$`)
	aDecimal = regexp.MustCompile(`^-?[0-9]+\.[0-9]+$`)
	noSign   = regexp.MustCompile(`^[^(),=<>]`)
	noNames  = strings.Fields("where and or not is null in between order by asc desc limit true false")
)

// piece is a token of a text; broken ones have no text.
type piece struct {
	text string
	at   int
}

// pieces is the tokens of a text, up to the first broken one.
func pieces(text string) []piece {
	var l []piece
	for at := 0; at < len(text); {
		if strings.IndexByte(" \t\n\r", text[at]) >= 0 {
			at++
			continue
		}
		s := aToken.FindString(text[at:])
		if strings.HasPrefix(text[at:], "x'") && s == "x" {
			s = ""
		}
		l = append(l, piece{s, at})
		if s == "" {
			break
		}
		at += len(s)
	}
	return l
}

// item is the literal that a token says; nil, if it is none.
func item(text string) *api.Item {
	if aDecimal.MatchString(text) {
		return &api.Item{Kind: api.Float}
	}
	l, _, e := tuple.Parse(text)
	if e != api.OK || len(l) != 1 || l[0].Kind == api.Null || l[0].Kind == api.List {
		return nil
	}
	return &l[0]
}

// ways is to which state a word or a sign leads from which one. A state of a literal says which one stands behind it.
var ways = map[string]string{
	"start where": "condition", "start order": "order", "start limit": "number",
	"test =": "literal whole", "test <>": "literal whole", "test <": "literal whole", "test <=": "literal whole", "test >": "literal whole", "test >=": "literal whole",
	"test not": "turned", "test in": "in", "test between": "literal span", "test is": "is",
	"turned in": "in", "turned between": "literal span",
	"is not": "is not", "is null": "whole", "is not null": "whole",
	"in (": "literal list", "list ,": "literal list", "list )": "whole",
	"span and":  "literal whole",
	"whole and": "condition", "whole or": "condition", "whole order": "order", "whole limit": "number", "whole )": "whole",
	"order by":   "term",
	"by asc":     "said",
	"by desc":    "said",
	"by ,":       "term",
	"by limit":   "number",
	"said ,":     "term",
	"said limit": "number",
}

type machine struct {
	state string
	depth int
}

func (m *machine) take(text string) api.Errno {
	behind, literal := strings.CutPrefix(m.state, "literal ")
	switch {
	case literal:
		return m.takeLiteral(text, behind, item(text) != nil)
	case m.state == "number":
		x := item(text)
		return m.takeLiteral(text, "end", x != nil && x.Kind == api.Int && x.Num >= 0 && x.Num <= 1<<30)
	case m.state == "term":
		return m.takeName(text, "by")
	case m.state == "condition" && text == "not":
		return api.OK
	case m.state == "condition" && text == "(":
		m.depth++
		if m.depth > 16 {
			return api.ErrQuery
		}
		return api.OK
	case m.state == "condition":
		return m.takeName(text, "test")
	}
	next, is := ways[m.state+" "+text]
	if m.state == "whole" && (text == ")" && m.depth == 0 || m.depth > 0 && (text == "order" || text == "limit")) || !is {
		return api.ErrQuery
	}
	if m.state == "whole" && text == ")" {
		m.depth--
	}
	m.state = next
	return api.OK
}

func (m *machine) takeLiteral(text, behind string, is bool) api.Errno {
	if !noSign.MatchString(text) {
		return api.ErrQuery
	}
	if !is {
		return api.ErrWord
	}
	m.state = behind
	return api.OK
}

func (m *machine) takeName(text, behind string) api.Errno {
	if !noSign.MatchString(text) || text[0] == '"' || strings.HasPrefix(text, "x'") {
		return api.ErrQuery
	}
	if !aName.MatchString(text) || slices.Contains(noNames, text) {
		return api.ErrWord
	}
	m.state = behind
	return api.OK
}

func (m *machine) mayEnd() bool {
	return slices.Contains([]string{"start", "whole", "by", "said", "end"}, m.state) && m.depth == 0
}

// expected is what Parse has to answer: the place of the fault, and the error.
func expected(text string) (int, api.Errno) {
	if len(text) > 4096 {
		return 0, api.ErrLong
	}
	m := &machine{state: "start"}
	for i, p := range pieces(text) {
		switch {
		case i == 128:
			return p.at, api.ErrLong
		case p.text == "":
			return p.at, api.ErrWord
		}
		if e := m.take(p.text); e != api.OK {
			return p.at, e
		}
	}
	if !m.mayEnd() {
		return len(text), api.ErrQuery
	}
	return 0, api.OK
}
