package query_test

import (
	"bytes"
	"fmt"
	"slices"
	"testing"

	"espalier/api"
	"espalier/query"
)

// mark is what stands in the spare room behind lists.
const mark = "the spare room"

func roomyItem(item api.Item) api.Item {
	if item.Kind != api.List {
		return item
	}
	var l []api.Item
	for _, x := range item.List {
		l = append(l, roomyItem(x))
	}
	item.List = append(l, word(mark), word(mark))[:len(l)]
	return item
}

// roomyRecord is a record in memory of its own, with marked spare room behind its lists.
func roomyRecord(r api.Record) api.Record {
	var fields []api.Field
	for _, f := range r.Fields {
		fields = append(fields, api.Field{Name: f.Name, Item: roomyItem(f.Item)})
	}
	return api.Record{Key: roomyItem(r.Key), Fields: append(fields, api.Field{Name: mark}, api.Field{Name: mark})[:len(fields)]}
}

func roomyIndexes(l []api.Index) []api.Index {
	var out []api.Index
	for _, x := range l {
		x.Fields = append(slices.Clone(x.Fields), mark, mark)[:len(x.Fields)]
		out = append(out, x)
	}
	return append(out, by(mark, mark), by(mark, mark))[:len(l)]
}

// wholeItem is an item as a text, the spare room behind its lists too.
func wholeItem(item api.Item) string {
	text := fmt.Sprint(item.Kind, item.Num, item.Text, len(item.List), "(")
	for _, x := range item.List[:cap(item.List)] {
		text += wholeItem(x)
	}
	return text + ")"
}

func wholeRecord(r api.Record) string {
	text := wholeItem(r.Key)
	for _, f := range r.Fields[:cap(r.Fields)] {
		text += f.Name + wholeItem(f.Item)
	}
	return text
}

func wholeIndexes(l []api.Index) string {
	text := ""
	for _, x := range l[:cap(l)] {
		text += fmt.Sprint(x.Name, x.Unique, x.Fields[:cap(x.Fields)])
	}
	return text
}

// spoilItem writes over an item's lists, and the spare room behind them.
func spoilItem(item api.Item) {
	l := item.List[:cap(item.List)]
	for i := range l {
		spoilItem(l[i])
		l[i] = word("spoilt")
	}
}

func spoilRecord(r api.Record) {
	spoilItem(r.Key)
	l := r.Fields[:cap(r.Fields)]
	for i := range l {
		spoilItem(l[i].Item)
		l[i] = api.Field{Name: "spoilt", Item: word("spoilt")}
	}
}

func spoilRecords(l []api.Record) {
	l = l[:cap(l)]
	for i := range l {
		spoilRecord(l[i])
		l[i] = rec(word("spoilt"))
	}
}

func spoilIndexes(l []api.Index) {
	l = l[:cap(l)]
	for i := range l {
		fields := l[i].Fields[:cap(l[i].Fields)]
		for j := range fields {
			fields[j] = "spoilt"
		}
		l[i] = by("spoilt")
	}
}

func spoilBytes(b []byte) {
	b = b[:cap(b)]
	for i := range b {
		b[i] = 0x77
	}
}

func questionsOfMemory() []string {
	return []string{"", "limit 2", `where a = 1`, "where a = 1 and b > 2", "where a = 1 and b between 2 and 300 order by b desc", "where a is null", "where key >= 0", "where key = 1", "order by b, a desc limit 3", "where a in (1, 2) or not b < 3", "where a > 1", "where a <= x'ff'"}
}

// deep is records with lists in lists.
func deep() []api.Record {
	return []api.Record{
		rec(list(num(1), list(word("a"), list())), "a", num(1), "b", list(num(1), list(num(2)))),
		rec(list(list(num(1)), list(num(2))), "a", num(1), "b", num(300), "c", list(list(), list())),
		rec(num(1), "a", num(1), "b", num(5), "c", list(num(1), num(2), num(3))),
		rec(num(2), "a", num(2), "b", list(list(list(word("x"))), null()), "c", list(num(7))),
		rec(num(3), "b", num(3)),
		rec(word("k"), "a", bin("\x00"), "b", null()),
	}
}

// P20.8: what is handed in is neither changed, nor the spare room behind it, nor kept.
func TestWhatIsHandedInStays(t *testing.T) {
	indexes := []api.Index{by("ab", "a", "b"), by("b", "b"), alone("c", "c", "a")}
	for _, text := range questionsOfMemory() {
		q := ask(t, text)
		want := plan(q.Plan(indexes))
		for range 2 {
			in := roomyIndexes(indexes)
			before := wholeIndexes(in)
			p := q.Plan(in)
			same(t, "Plan: what was handed in", wholeIndexes(in), before)
			spoilIndexes(in)
			same(t, "Plan of "+text, plan(p), want)
			same(t, "Plan once more of "+text, plan(q.Plan(indexes)), want)
			for _, r := range deep() {
				fits := q.Fits(r)
				in := roomyRecord(r)
				before := wholeRecord(in)
				same(t, "Fits of "+text, q.Fits(in), fits)
				same(t, "Fits: what was handed in", wholeRecord(in), before)
				spoilRecord(in)
				same(t, "Fits of "+text, q.Fits(r), fits)
			}
		}
	}
}

// P20.8: what is answered is the caller's: it may be written over, with the spare room behind it, and no other answer changes with it.
func TestWhatIsAnsweredIsNewMemory(t *testing.T) {
	indexes := []api.Index{by("ab", "a", "b"), by("b", "b")}
	for _, text := range questionsOfMemory() {
		q := ask(t, text)
		want := q.Plan(indexes)
		lo, hi := bytes.Clone(want.Lo), bytes.Clone(want.Hi)
		p := q.Plan(indexes)
		spoilBytes(p.Lo)
		same(t, "Hi, where Lo is written over, of "+text, string(p.Hi), string(hi))
		p = q.Plan(indexes)
		spoilBytes(p.Hi)
		same(t, "Lo, where Hi is written over, of "+text, string(p.Lo), string(lo))
		p = q.Plan(indexes)
		_, _ = append(p.Lo, 1, 2, 3), append(p.Hi, 4, 5, 6)
		same(t, "a plan whose bounds are appended to, of "+text, plan(p), plan(want))
		spoilBytes(p.Lo)
		spoilBytes(p.Hi)
		same(t, "another plan of "+text, string(want.Lo)+"|"+string(want.Hi), string(lo)+"|"+string(hi))
		same(t, "a later plan of "+text, plan(q.Plan(indexes)), plan(want))
	}
	for _, engine := range engines() {
		x := makes(t, plot(engine), indexes, deep()...)
		for _, text := range questionsOfMemory() {
			q := ask(t, text)
			for name, call := range runs() {
				first, _ := call(q, x)
				second, _ := call(q, x)
				want := forms(second)
				spoilRecords(first)
				sameList(t, name+" of "+text+": another answer", forms(second), want)
				for i := range second {
					third, _ := call(q, x)
					spoilRecord(third[i])
					third[i] = second[i]
					sameList(t, name+" of "+text+": a record among others", forms(third), want)
					_ = append(third[i].Fields, api.Field{Name: "appended"})
					sameList(t, name+" of "+text+": a record that is appended to", forms(third), want)
				}
				sameList(t, name+" of "+text+": a later answer", forms(firstOf(call(q, x))), want)
			}
		}
		same(t, "records", len(firstOf(ask(t, "").Run(x))), len(deep()))
	}
}

func firstOf(l []api.Record, _ api.Errno) []api.Record { return l }

// R6: what a question answers hangs on nothing that it was asked before; questions of one text are apart, and one serves several tables.
func TestQuestionsStayAsTheyAre(t *testing.T) {
	r := chance()
	indexes := []api.Index{by("ab", "a", "b"), by("b", "b")}
	x, y := makes(t, plot(api.Plain), indexes, deep()...), makes(t, plot(api.Packed), nil, people()...)
	for range 300 {
		a := drawnQuestion(r, 1+r.Intn(5))
		q, other := ask(t, a.text()), ask(t, a.text())
		all := func(q *query.Query) string {
			return fmt.Sprint(q.Text(), plan(q.Plan(indexes)), q.Fits(deep()[0]), keysOf(firstOf(q.Run(x))), keysOf(firstOf(q.Slow(y))), plan(q.Plan(nil)))
		}
		want := all(q)
		for range 3 {
			same(t, "once more: "+a.text(), all(q), want)
		}
		same(t, "of another one: "+a.text(), all(other), want)
		stop(t)
	}
}
