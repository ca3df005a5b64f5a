package query_test

import (
	"fmt"
	"math/rand"
	"testing"

	"espalier/api"
	"espalier/index"
	"espalier/query"
)

// garden is a table beside the records that it should have, by their keys' bytes.
type garden struct {
	t       *testing.T
	x       *index.Table
	indexes []api.Index
	want    map[string]api.Record
}

func (g *garden) put(r api.Record) {
	g.t.Helper()
	if _, e := g.x.Put(r); e != api.OK {
		g.t.Fatalf("Put(%s): %d", form(r), e)
	}
	g.want[coded(r.Key)] = r
}

func (g *garden) remove(key api.Item) {
	g.x.Delete(key)
	delete(g.want, coded(key))
}

func (g *garden) records() []api.Record {
	var l []api.Record
	for _, r := range g.want {
		l = append(l, r)
	}
	return l
}

// answers holds Run and Slow of a question against each other, and against what the records say.
func (g *garden) answers(a *asked, q *query.Query) []api.Record {
	g.t.Helper()
	want := a.answer(g.records())
	for name, call := range runs() {
		l, e := call(q, g.x)
		what := fmt.Sprintf("%s of %s with %v", name, a.text(), g.indexes)
		same(g.t, what, e, api.OK)
		sameList(g.t, what, forms(l), forms(want))
	}
	stop(g.t)
	return want
}

// drawnKey is one of some, mostly.
func drawnKey(r *rand.Rand) api.Item {
	if r.Intn(3) == 0 {
		return drawnItem(r)
	}
	return num(int64(r.Intn(60) - 20))
}

// P20.7: drawn questions to drawn tables, which change meanwhile: Run answers what Slow does, and what a list of the records says.
func TestDrawnAnswers(t *testing.T) {
	t.Parallel()
	for _, engine := range engines() {
		r := chance()
		kinds, met := map[string]int{}, 0
		for range 40 {
			g := &garden{t: t, indexes: drawnIndexes(r), want: map[string]api.Record{}}
			g.x = makes(t, plot(engine), g.indexes)
			for range 6 {
				for range r.Intn(15) {
					record := drawnRecord(r)
					record.Key = drawnKey(r)
					g.put(record)
				}
				for range r.Intn(4) {
					g.remove(drawnKey(r))
				}
				for range 12 {
					a := drawnQuestion(r, 1+r.Intn(4))
					q := ask(t, loose(r, a.source(r)))
					if len(g.answers(a, q)) > 0 {
						met++
						p := q.Plan(g.indexes)
						kinds[fmt.Sprint(p.Index != "", p.Open, p.Sort, p.Reverse)]++
					}
				}
			}
		}
		same(t, "answers with records", met > 1000, true)
		same(t, "kinds of plans", len(kinds), 7)
	}
}

// P20.2, P20.7: a question that is read of another one's Text answers alike.
func TestDrawnTextsAnswerAlike(t *testing.T) {
	t.Parallel()
	r := chance()
	g := &garden{t: t, indexes: []api.Index{by("ab", "a", "b"), by("c", "c")}, want: map[string]api.Record{}}
	g.x = makes(t, plot(api.Plain), g.indexes)
	for range 60 {
		record := drawnRecord(r)
		record.Key = drawnKey(r)
		g.put(record)
	}
	for range 1500 {
		a := drawnQuestion(r, 1+r.Intn(5))
		q := ask(t, loose(r, a.source(r)))
		g.answers(a, ask(t, q.Text()))
		record, indexes := drawnRecord(r), drawnIndexes(r)
		same(t, "Fits of "+a.text(), ask(t, q.Text()).Fits(record), q.Fits(record))
		same(t, "Plan of "+a.text(), plan(ask(t, q.Text()).Plan(indexes)), plan(q.Plan(indexes)))
		stop(t)
	}
}

// P20.7: of many records, in many pages.
func TestManyRecords(t *testing.T) {
	t.Parallel()
	for _, engine := range engines() {
		r := chance()
		g := &garden{t: t, indexes: []api.Index{by("ab", "a", "b"), by("ba", "b", "a"), by("d", "d")}, want: map[string]api.Record{}}
		g.x = makes(t, plot(engine), g.indexes)
		for i := range int64(500) {
			record := drawnRecord(r)
			record.Key = num(i*7919%500 - 200)
			g.put(record)
		}
		for range 80 {
			a := drawnQuestion(r, 1+r.Intn(4))
			g.answers(a, ask(t, a.text()))
		}
	}
}
