package query_test

import (
	"fmt"
	"math"
	"math/rand"
	"slices"
	"strings"
	"testing"

	"espalier/api"
	"espalier/grove"
	"espalier/index"
	"espalier/query"
	"espalier/tuple"
)

func engines() []int { return []int{api.Plain, api.Packed} }

// chance is the same row of numbers in every run.
func chance() *rand.Rand { return rand.New(rand.NewSource(20)) }

func same[T comparable](t *testing.T, what string, got, want T) {
	if got != want {
		t.Helper()
		t.Errorf("%.600s: %.600s, want %.600s", what, fmt.Sprintf("%#v", got), fmt.Sprintf("%#v", want))
	}
}

func sameList[T comparable](t *testing.T, what string, got, want []T) {
	if !slices.Equal(got, want) {
		t.Helper()
		t.Errorf("%.600s: %.600s, want %.600s", what, fmt.Sprint(got), fmt.Sprint(want))
	}
}

// stop ends a test that has failed already: what follows from it would only hide what went wrong first.
func stop(t *testing.T) {
	if t.Failed() {
		t.Helper()
		t.FailNow()
	}
}

func null() api.Item { return api.Item{Kind: api.Null} }

func truth(is bool) api.Item {
	if is {
		return api.Item{Kind: api.True}
	}
	return api.Item{Kind: api.False}
}

func num(n int64) api.Item { return api.Item{Kind: api.Int, Num: n} }

func float(f float64) api.Item { return bitsOf(math.Float64bits(f)) }

// bitsOf is a Float of these bits.
func bitsOf(b uint64) api.Item { return api.Item{Kind: api.Float, Num: int64(b)} }

func bin(s string) api.Item { return api.Item{Kind: api.Bytes, Text: s} }

func word(s string) api.Item { return api.Item{Kind: api.Text, Text: s} }

func list(l ...api.Item) api.Item { return api.Item{Kind: api.List, List: l} }

// rec is a record of a key, and of names and items by turns.
func rec(key api.Item, l ...any) api.Record {
	r := api.Record{Key: key}
	for i := 0; i+1 < len(l); i += 2 {
		r.Fields = append(r.Fields, api.Field{Name: l[i].(string), Item: l[i+1].(api.Item)})
	}
	return r
}

// by is an index, alone one in which no two are alike.
func by(name string, fields ...string) api.Index { return api.Index{Name: name, Fields: fields} }

func alone(name string, fields ...string) api.Index {
	return api.Index{Name: name, Fields: fields, Unique: true}
}

// form is a record as a text: alike, just if the records are (an empty list and none are).
func form(r api.Record) string { return fmt.Sprintf("%+v", r) }

func forms(l []api.Record) []string {
	var out []string
	for _, r := range l {
		out = append(out, form(r))
	}
	return out
}

// coded is the bytes of items that may be: they sort as the items do (P2.6).
func coded(l ...api.Item) string {
	b, e := tuple.Encode(l...)
	if e != api.OK {
		panic(fmt.Sprintf("items that may not be: %v", l))
	}
	return string(b)
}

// keysOf is the records' keys as texts, a blank between each two.
func keysOf(l []api.Record) string {
	var keys []string
	for _, r := range l {
		s, _ := tuple.Print([]api.Item{r.Key})
		keys = append(keys, s)
	}
	return strings.Join(keys, " ")
}

// ask is a question that must be read.
func ask(t *testing.T, text string) *query.Query {
	t.Helper()
	q, at, e := query.Parse(text)
	if q == nil || at != 0 || e != api.OK {
		t.Fatalf("Parse(%.300q): %v, %d, %d", text, q != nil, at, e)
	}
	return q
}

// refused holds that a text is no question.
func refused(t *testing.T, text string, at int, want api.Errno) {
	t.Helper()
	q, place, e := query.Parse(text)
	same(t, fmt.Sprintf("Parse(%.300q)", text), fmt.Sprint(q != nil, place, e), fmt.Sprint(false, at, want))
}

// writes holds a question's text.
func writes(t *testing.T, text, want string) {
	t.Helper()
	got := ask(t, text).Text()
	same(t, fmt.Sprintf("Text of %.300q", text), got, want)
	if len(got) <= 4096 {
		same(t, fmt.Sprintf("Text of the Text of %.300q", text), ask(t, got).Text(), want)
	}
}

// plan is a plan as a text.
func plan(p api.Plan) string {
	return fmt.Sprintf("%s|% X|% X|%v %v %v", p.Index, p.Lo, p.Hi, p.Open, p.Sort, p.Reverse)
}

// plans holds a question's plan.
func plans(t *testing.T, text string, indexes []api.Index, want string) {
	t.Helper()
	same(t, fmt.Sprintf("Plan of %.300q with %v", text, indexes), plan(ask(t, text).Plan(indexes)), want)
}

// bench is a room with plenty of pages.
func bench(engine int) *api.Bench { return api.NewBench(engine, 1024, 20000) }

// plot is an empty grove.
func plot(engine int) *grove.Grove { return grove.Open(bench(engine), 0, 0) }

// makes makes the table p with records, which must be taken.
func makes(t *testing.T, g *grove.Grove, indexes []api.Index, l ...api.Record) *index.Table {
	t.Helper()
	x, e := index.Make(g, "p", indexes)
	if e != api.OK {
		t.Fatalf("Make: %d", e)
	}
	for _, r := range l {
		if _, e := x.Put(r); e != api.OK {
			t.Fatalf("Put(%s): %d", form(r), e)
		}
	}
	return x
}

// answers holds what Run and Slow answer, by the records' keys.
func answers(t *testing.T, x *index.Table, text, want string) {
	t.Helper()
	q := ask(t, text)
	l, e := q.Run(x)
	same(t, fmt.Sprintf("Run of %q", text), fmt.Sprint(keysOf(l), "; ", e), want+"; 0")
	l, e = q.Slow(x)
	same(t, fmt.Sprintf("Slow of %q", text), fmt.Sprint(keysOf(l), "; ", e), want+"; 0")
}
