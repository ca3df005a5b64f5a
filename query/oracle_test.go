package query_test

import (
	"slices"
	"strings"

	"espalier/api"
)

// What is asked, once more, as the chapter's words say it, of items that may be: these are held against each other by their bytes.

func valueOf(name string, r api.Record) api.Item {
	if name == "key" {
		return r.Key
	}
	for _, f := range r.Fields {
		if f.Name == name {
			return f.Item
		}
	}
	return null()
}

// classOf is how the kinds of an item's class are written in what P20.5 calls a class: the least one's and the greatest one's first byte.
func classOf(x api.Item) string {
	if x.Kind == api.False || x.Kind == api.True {
		return "\x11\x12"
	}
	return strings.Repeat(coded(x)[:1], 2)
}

// stands tells whether a test by one literal holds.
func stands(value api.Item, sign string, x api.Item) bool {
	if value.Kind == api.Null {
		return false
	}
	n := strings.Compare(coded(value), coded(x))
	switch sign {
	case "=":
		return n == 0
	case "<>":
		return n != 0
	}
	if classOf(value) != classOf(x) {
		return false
	}
	return n < 0 && sign[0] == '<' || n > 0 && sign[0] == '>' || n == 0 && len(sign) == 2
}

func (c *cond) holds(r api.Record) bool {
	n := 0
	for _, p := range c.parts {
		if p.holds(r) {
			n++
		}
	}
	value := valueOf(c.name, r)
	switch c.what {
	case "not":
		return n == 0
	case "and":
		return n == len(c.parts)
	case "or":
		return n > 0
	case "null":
		return value.Kind == api.Null
	case "between":
		return stands(value, ">=", c.literals[0].item) && stands(value, "<=", c.literals[1].item)
	case "in":
		return slices.ContainsFunc(c.literals, func(x literal) bool { return stands(value, "=", x.item) })
	}
	return stands(value, c.what, c.literals[0].item)
}

func (a *asked) fits(r api.Record) bool { return a.cond == nil || a.cond.holds(r) }

func (a *asked) lastDesc() bool { return len(a.terms) > 0 && a.terms[len(a.terms)-1].desc }

// compare tells which of two records stands ahead.
func (a *asked) compare(r, s api.Record) int {
	for _, t := range append(slices.Clone(a.terms), sorting{"key", a.lastDesc()}) {
		n := strings.Compare(coded(valueOf(t.name, r)), coded(valueOf(t.name, s)))
		if t.desc {
			n = -n
		}
		if n != 0 {
			return n
		}
	}
	return 0
}

// answer is those of the records that are asked for.
func (a *asked) answer(records []api.Record) []api.Record {
	var l []api.Record
	for _, r := range records {
		if a.fits(r) {
			l = append(l, r)
		}
	}
	slices.SortFunc(l, a.compare)
	if a.limit >= 0 && a.limit < len(l) {
		l = l[:a.limit]
	}
	return l
}

// way is a road as it is reckoned with: its bytes as texts.
type way struct {
	index   string
	steps   []string
	fixed   int
	bounded bool
	prefix  string
	lo, hi  string
}

// behind is the least text behind all that begin with one.
func behind(s string) string {
	for strings.HasSuffix(s, "\xff") {
		s = s[:len(s)-1]
	}
	return s[:len(s)-1] + string([]byte{s[len(s)-1] + 1})
}

// tests is the parts of a question that are tests.
func (a *asked) tests() []*cond {
	if a.cond == nil {
		return nil
	}
	c := a.cond.flat()
	if c.what != "and" {
		c = &cond{parts: []*cond{c}}
	}
	return slices.DeleteFunc(slices.Clone(c.parts), func(p *cond) bool { return slices.Contains([]string{"not", "and", "or"}, p.what) })
}

// fixing is the bytes of the item that a name is fixed to; none, if it is not fixed.
func (a *asked) fixing(name string) string {
	for _, p := range a.tests() {
		switch {
		case p.name == name && p.what == "=":
			return coded(p.literals[0].item)
		case p.name == name && p.what == "null":
			return "\x10"
		}
	}
	return ""
}

// bound makes a way bounded, if a part bounds the name.
func (a *asked) bound(w *way, name string) {
	class := ""
	for _, p := range a.tests() {
		if p.name != name || !slices.Contains([]string{"<", "<=", ">", ">=", "between"}, p.what) {
			continue
		}
		if class == "" {
			class = classOf(p.literals[0].item)
		}
		below, above := p.literals[0].item, p.literals[len(p.literals)-1].item
		if (p.what[0] == '>' || p.what == "between") && w.lo == "" && classOf(below) == class {
			w.lo = w.prefix + coded(below)
			if p.what == ">" {
				w.lo = behind(w.lo)
			}
		}
		if (p.what[0] == '<' || p.what == "between") && w.hi == "" && classOf(above) == class {
			w.hi = w.prefix + coded(above)
			if p.what != "<" {
				w.hi = behind(w.hi)
			}
		}
	}
	if w.bounded = class != ""; !w.bounded {
		return
	}
	if w.lo == "" {
		w.lo = w.prefix + class[:1]
	}
	if w.hi == "" {
		w.hi = w.prefix + string([]byte{class[1] + 1})
	}
}

func (a *asked) way(name string, fields []string) *way {
	w := &way{index: name, steps: append(slices.Clone(fields), "key")}
	for _, step := range w.steps {
		s := a.fixing(step)
		if s == "" {
			a.bound(w, step)
			break
		}
		w.prefix += s
		w.fixed++
	}
	if !w.bounded && w.fixed > 0 {
		w.lo, w.hi = w.prefix, behind(w.prefix)
	}
	return w
}

// best is the best way: of those that are as good as any the first one.
func (a *asked) best(indexes []api.Index) *way {
	l := []*way{a.way("", nil)}
	for _, x := range indexes {
		l = append(l, a.way(x.Name, x.Fields))
	}
	most := slices.MaxFunc(l, func(v, w *way) int { return v.fixed - w.fixed }).fixed
	l = slices.DeleteFunc(l, func(w *way) bool { return w.fixed < most })
	if i := slices.IndexFunc(l, func(w *way) bool { return w.bounded }); i >= 0 {
		return l[i]
	}
	return l[0]
}

// plan is what Plan has to tell.
func (a *asked) plan(indexes []api.Index) api.Plan {
	w := a.best(indexes)
	p := api.Plan{Index: w.index, Lo: []byte(w.lo), Hi: []byte(w.hi), Open: w.hi == "", Sort: true}
	names, up, down := "", !a.lastDesc(), a.lastDesc()
	count := 0
	for _, t := range a.terms {
		if slices.Contains(w.steps[:w.fixed], t.name) {
			continue
		}
		names += t.name + " "
		up, down = up && !t.desc, down && t.desc
		count++
	}
	left := strings.Join(w.steps[w.fixed:], " ")
	if names+"key" == left && (up || down) {
		p.Sort, p.Reverse = false, down
	}
	if left == "" && count == 0 {
		p.Sort = false
	}
	return p
}
