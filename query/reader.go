package query

import "espalier/api"

// reader goes through a question's tokens; each of its readings begins at the token that it stands at, and ends behind what it has read, or at the token that is amiss.
type reader struct {
	text  string
	token token
	end   int // of that token
	taken int // tokens, with that one
	depth int // brackets about it
}

func (r *reader) next() {
	r.token = tokenAt(r.text, r.end)
	r.end = r.token.at + len(r.token.text)
	r.taken++
	if r.taken > api.MaxRules && r.token.kind != tokenEnd {
		r.token.kind, r.token.text = tokenBeyond, ""
	}
}

// passes goes on, if it stands at that word or sign.
func (r *reader) passes(text string) bool {
	if r.token.text != text {
		return false
	}
	r.next()
	return true
}

func (r *reader) expects(text string) api.Errno {
	if !r.passes(text) {
		return r.amiss()
	}
	return api.OK
}

// amiss is the error of a token that may not stand where it stands, whatever it says.
func (r *reader) amiss() api.Errno {
	switch r.token.kind {
	case tokenBeyond:
		return api.ErrLong
	case tokenBroken:
		return api.ErrWord
	}
	return api.ErrQuery
}

func (r *reader) question() (*Query, api.Errno) {
	q, e := &Query{}, api.OK
	if r.passes("where") {
		q.condition, e = r.anyOf()
	}
	if e == api.OK && r.passes("order") {
		q.terms, e = r.terms()
	}
	if e == api.OK && r.passes("limit") {
		q.limited = true
		q.limit, e = r.number()
	}
	if e == api.OK && r.token.kind != tokenEnd {
		e = r.amiss()
	}
	return q, e
}

// row reads one thing or more, each two of them linked by that word or sign.
func row[T any](r *reader, link string, one func() (T, api.Errno)) ([]T, api.Errno) {
	var l []T
	for {
		x, e := one()
		if e != api.OK {
			return nil, e
		}
		l = append(l, x)
		if !r.passes(link) {
			return l, api.OK
		}
	}
}

func (r *reader) anyOf() (condition, api.Errno) {
	l, e := row(r, "or", r.allOf)
	return joinedByOr(l), e
}

func (r *reader) allOf() (condition, api.Errno) {
	l, e := row(r, "and", r.part)
	return joinedByAnd(l), e
}

func (r *reader) part() (condition, api.Errno) {
	if r.passes("not") {
		c, e := r.part()
		return not{c}, e
	}
	if r.token.text == "(" {
		return r.bracketed()
	}
	return r.test()
}

func (r *reader) bracketed() (condition, api.Errno) {
	if r.depth == api.MaxDepth {
		return nil, api.ErrQuery
	}
	r.next()
	r.depth++
	c, e := r.anyOf()
	r.depth--
	if e != api.OK {
		return nil, e
	}
	return c, r.expects(")")
}

func (r *reader) test() (condition, api.Errno) {
	name, e := r.name()
	if e != api.OK {
		return nil, e
	}
	if sign := r.token.text; meaning(sign) != nil {
		r.next()
		literal, e := r.literal()
		return comparison{name, sign, literal}, e
	}
	if r.passes("is") {
		turned := r.passes("not")
		return turnedIf(turned, isNull{name}), r.expects("null")
	}
	turned := r.passes("not")
	c, e := r.choice(name)
	return turnedIf(turned, c), e
}

// choice reads a test by several literals, from behind its name on.
func (r *reader) choice(name string) (condition, api.Errno) {
	if r.passes("in") {
		literals, e := r.literals()
		return among{name, literals}, e
	}
	if e := r.expects("between"); e != api.OK {
		return nil, e
	}
	from, e := r.literal()
	if e != api.OK {
		return nil, e
	}
	if e := r.expects("and"); e != api.OK {
		return nil, e
	}
	to, e := r.literal()
	return between{name, from, to}, e
}

func (r *reader) literals() ([]api.Item, api.Errno) {
	if e := r.expects("("); e != api.OK {
		return nil, e
	}
	l, e := row(r, ",", r.literal)
	if e != api.OK {
		return nil, e
	}
	return l, r.expects(")")
}

func (r *reader) terms() ([]term, api.Errno) {
	if e := r.expects("by"); e != api.OK {
		return nil, e
	}
	return row(r, ",", r.term)
}

func (r *reader) term() (term, api.Errno) {
	name, e := r.name()
	if e != api.OK {
		return term{}, e
	}
	falls := r.passes("desc")
	if !falls {
		r.passes("asc")
	}
	return term{name, falls}, api.OK
}

func (r *reader) name() (string, api.Errno) {
	word := r.token
	if word.kind != tokenWord {
		return "", r.amiss()
	}
	if !isName(word.text) {
		return "", api.ErrWord
	}
	r.next()
	return word.text, api.OK
}

func (r *reader) literal() (api.Item, api.Errno) { return r.item(literalOf) }

func (r *reader) number() (int, api.Errno) {
	item, e := r.item(limitOf)
	return int(item.Num), e
}

// item reads a token that says an item, if that is one of those that are meant.
func (r *reader) item(meant func(text string) (api.Item, bool)) (api.Item, api.Errno) {
	if r.token.kind != tokenWord && r.token.kind != tokenQuoted {
		return api.Item{}, r.amiss()
	}
	item, is := meant(r.token.text)
	if !is {
		return api.Item{}, api.ErrWord
	}
	r.next()
	return item, api.OK
}
