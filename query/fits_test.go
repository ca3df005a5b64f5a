package query_test

import (
	"fmt"
	"math"
	"strings"
	"testing"

	"espalier/api"
)

// values is items of every kind, some of them less than others.
func values() []api.Item {
	l := []api.Item{null(), num(math.MinInt64), num(0), num(math.MaxInt64), float(-1), float(math.Inf(-1)), bitsOf(0x7ff8000000000001), bitsOf(0xfff8000000000001), float(math.SmallestNonzeroFloat64),
		word("\x00\x00"), word("aa"), word("é"), bin("a"), bin("\x00"), list(), list(num(1)), list(null(), list(word("a")))}
	for _, x := range literals() {
		l = append(l, x.item)
	}
	return l
}

// P20.3: every sign, of every value and every literal, of a field and of the key.
func TestSigns(t *testing.T) {
	for _, x := range literals() {
		for _, sign := range []string{"=", "<>", "<", "<=", ">", ">="} {
			field, key := ask(t, "where a "+sign+" "+x.source), ask(t, "where key"+sign+x.source)
			for _, value := range values() {
				want := stands(value, sign, x.item)
				what := fmt.Sprintf("%v %s %s", value, sign, x.source)
				same(t, what, field.Fits(rec(num(1), "a", value)), want)
				same(t, what+" of a key", key.Fits(rec(value, "a", num(5))), want)
				same(t, "not "+what, ask(t, "where not a"+sign+x.source).Fits(rec(num(1), "a", value)), !want)
			}
			same(t, sign+" of a field that is not there", field.Fits(rec(num(1), "b", num(1))), false)
			same(t, sign+" of no field", field.Fits(rec(x.item)), false)
		}
	}
}

// P20.3: between stands as >= and <= do, each by its own class; in as = does.
func TestBetweenAndIn(t *testing.T) {
	for _, x := range literals() {
		for _, y := range literals() {
			span, set := ask(t, "where a between "+x.source+" and "+y.source), ask(t, "where a in ("+x.source+","+y.source+")")
			for _, value := range values() {
				r := rec(num(1), "a", value)
				what := fmt.Sprintf("%v, %s, %s", value, x.source, y.source)
				same(t, "between: "+what, span.Fits(r), stands(value, ">=", x.item) && stands(value, "<=", y.item))
				same(t, "in: "+what, set.Fits(r), stands(value, "=", x.item) || stands(value, "=", y.item))
			}
			same(t, "between of none", span.Fits(rec(x.item)), false)
			same(t, "in of none", set.Fits(rec(x.item)), false)
		}
	}
	for text, want := range map[string]bool{"true": true, "false": true, "null": false, "0": false} {
		q := ask(t, "where a between false and true")
		item := map[string]api.Item{"true": truth(true), "false": truth(false), "null": null(), "0": num(0)}[text]
		same(t, text+" between false and true", q.Fits(rec(num(1), "a", item)), want)
	}
}

// P20.3: is null holds of null, and of what is not there; nothing else does.
func TestIsNull(t *testing.T) {
	is, isNot := ask(t, "where a is null"), ask(t, "where a is not null")
	for _, value := range values() {
		r := rec(num(1), "a", value)
		same(t, fmt.Sprintf("%v is null", value), is.Fits(r), value.Kind == api.Null)
		same(t, fmt.Sprintf("%v is not null", value), isNot.Fits(r), value.Kind != api.Null)
		same(t, fmt.Sprintf("the key %v is null", value), ask(t, "where key is null").Fits(rec(value, "a", num(1))), value.Kind == api.Null)
	}
	same(t, "no field is null", is.Fits(rec(num(1), "b", num(1))), true)
	for _, text := range []string{"a = 1", "a <> 1", "a < 1", "a <= 1", "a > 1", "a >= 1", "a in (1)", "a in (1, true)", "a between 0 and 9"} {
		for _, r := range []api.Record{rec(num(1)), rec(num(1), "a", null()), rec(num(1), "b", num(1))} {
			same(t, text+" of null", ask(t, "where "+text).Fits(r), false)
			same(t, "not "+text+" of null", ask(t, "where not "+text).Fits(r), true)
		}
	}
}

// P20.3: Not, And, Or, of every choice of parts that hold and do not.
func TestNotAndOr(t *testing.T) {
	for n := range 16 {
		var hold []bool
		var say []any
		for i := range 4 {
			is := n>>i&1 == 1
			hold, say = append(hold, is), append(say, map[bool]string{true: "a = 1", false: "a = 2"}[is])
		}
		for text, want := range map[string]bool{
			"%s and %s and %s and %s":                    hold[0] && hold[1] && hold[2] && hold[3],
			"%s or %s or %s or %s":                       hold[0] || hold[1] || hold[2] || hold[3],
			"%s and %s or %s and %s":                     hold[0] && hold[1] || hold[2] && hold[3],
			"%s or %s and %s or %s":                      hold[0] || hold[1] && hold[2] || hold[3],
			"%s and (%s or %s) and %s":                   hold[0] && (hold[1] || hold[2]) && hold[3],
			"not (%s and %s) and not (%s or %s)":         !(hold[0] && hold[1]) && !(hold[2] || hold[3]),
			"not %s and %s or not (%s and not %s)":       !hold[0] && hold[1] || !(hold[2] && !hold[3]),
			"not not %s and not (%s or not (%s and %s))": hold[0] && !(hold[1] || !(hold[2] && hold[3])),
		} {
			text = "where " + fmt.Sprintf(text, say...)
			same(t, text, ask(t, text).Fits(rec(num(1), "a", num(1))), want)
		}
	}
}

// P20.3: without a condition every record is asked for.
func TestFitsWithoutCondition(t *testing.T) {
	for _, text := range []string{"", "order by a desc", "limit 0", "order by key limit 1"} {
		for _, r := range []api.Record{{}, rec(num(1), "a", num(1)), {Key: api.Item{Kind: 99}}} {
			same(t, "Fits of "+text, ask(t, text).Fits(r), true)
		}
	}
}

// P20.3: of drawn records and conditions.
func TestDrawnFits(t *testing.T) {
	t.Parallel()
	r := chance()
	count := 0
	for range 4000 {
		a := drawnQuestion(r, 1+r.Intn(6))
		q := ask(t, loose(r, a.source(r)))
		for range 8 {
			record := drawnRecord(r)
			want := a.fits(record)
			same(t, "Fits of "+a.text()+" of "+form(record), q.Fits(record), want)
			if want {
				count++
			}
		}
		stop(t)
	}
	same(t, "some fit", count > 5000 && count < 27000, true)
}

// P20.3: of any record: fields that do not rise, of which the first one of a name counts, items that may not be, and fields that are called key.
func TestFitsOfAnyRecord(t *testing.T) {
	odd := func(kind int) api.Item { return api.Item{Kind: kind, Num: 1, Text: "x", List: []api.Item{num(1)}} }
	round := make([]api.Item, 1)
	round[0] = list(round...)
	round[0].List = round
	many := rec(num(1))
	for i := range 500 {
		many.Fields = append(many.Fields, api.Field{Name: fmt.Sprint("f", i), Item: num(int64(i))})
	}
	for _, c := range []struct {
		text string
		r    api.Record
		want bool
	}{
		{"a = 1", rec(num(1), "b", num(9), "a", num(1)), true},
		{"a = 1", rec(num(1), "b", num(9), "a", num(1), "a", num(2)), true},
		{"a = 2", rec(num(1), "b", num(9), "a", num(1), "a", num(2)), false},
		{"a is null", rec(num(1), "a", null(), "a", num(2)), true},
		{"a = 2", rec(num(1), "a", null(), "a", num(2)), false},
		{"key = 1", rec(num(1), "key", num(2)), true},
		{"key = 2", rec(num(1), "key", num(2)), false},
		{"key is null", rec(null(), "key", num(2)), true},
		{"a = 1", rec(num(1), "A", num(1), "", num(1), strings.Repeat("a", 65), num(1)), false},
		{"a = 1", rec(num(1), "a", odd(api.Int)), true},
		{`a = "x"`, rec(num(1), "a", odd(api.Text)), true},
		{"a is null", rec(num(1), "a", odd(api.Null)), true},
		{"a <> 1", rec(num(1), "a", odd(api.Null)), false},
		{"a = true", rec(num(1), "a", odd(api.True)), true},
		{"a > false", rec(num(1), "a", odd(api.True)), true},
		{"a <> 1", rec(num(1), "a", odd(8)), true},
		{"a > 1", rec(num(1), "a", odd(8)), false},
		{"a < 1", rec(num(1), "a", odd(-1)), false},
		{"a <> true", rec(num(1), "a", odd(math.MinInt)), true},
		{"a is null", rec(num(1), "a", odd(math.MaxInt)), false},
		{"a <> 1", rec(num(1), "a", round[0]), true},
		{"a >= 1", rec(num(1), "a", round[0]), false},
		{"a in (1, 2)", rec(num(1), "a", round[0]), false},
		{`a > "a"`, rec(num(1), "a", word("\xff")), true},
		{"f499 = 499 and f0 = 0 and f500 is null", many, true},
		{"key is null and a is null", api.Record{}, true},
	} {
		same(t, fmt.Sprintf("%s of %.100s", c.text, fmt.Sprint(c.r.Key.Kind, len(c.r.Fields))), ask(t, "where "+c.text).Fits(c.r), c.want)
	}
}
