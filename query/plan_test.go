package query_test

import (
	"fmt"
	"math/rand"
	"slices"
	"strings"
	"testing"

	"espalier/api"
	"espalier/index"
)

// P20.5: not bounded: what is fixed, from the first step on.
func TestPlanOfFixedSteps(t *testing.T) {
	abc := []api.Index{by("abc", "a", "b", "c")}
	for text, want := range map[string]string{
		"":                                "|||true false false",
		"where a = 1":                     "abc|13 81 01|13 81 02|false true false",
		"where a = 1 and b = 2":           "abc|13 81 01 13 81 02|13 81 01 13 81 03|false true false",
		"where b = 2 and a = 1":           "abc|13 81 01 13 81 02|13 81 01 13 81 03|false true false",
		"where a = 1 and c = 2":           "abc|13 81 01|13 81 02|false true false",
		"where b = 1 and c = 2":           "|||true false false",
		"where a = 1 and b = 2 and c = 3": "abc|13 81 01 13 81 02 13 81 03|13 81 01 13 81 02 13 81 04|false false false",
		"where c = 1 and b = 2 and a = 3 and key = 4": "abc|13 81 03 13 81 02 13 81 01 13 81 04|13 81 03 13 81 02 13 81 01 13 81 05|false false false",
		"where a = 1 and key = 4":                     "|13 81 04|13 81 05|false false false",
		"where a is null":                             "abc|10|11|false true false",
		"where a = 1 and b is null":                   "abc|13 81 01 10|13 81 01 11|false true false",
		"where key is null":                           "|10|11|false false false",
		"where a = 255":                               "abc|13 81 FF|13 82|false true false",
		"where a = nan:ffffffffffffffff":              "abc|14 00 00 00 00 00 00 00 00|14 00 00 00 00 00 00 00 01|false true false",
		"where a = nan:7fffffffffffffff":              "abc|14 FF FF FF FF FF FF FF FF|15|false true false",
		"where a = 2.5":                               "abc|14 C0 04 00 00 00 00 00 00|14 C0 04 00 00 00 00 00 01|false true false",
		`where a = ""`:                                "abc|16 00 01|16 00 02|false true false",
		"where a = x'00'":                             "abc|15 00 FF 00 01|15 00 FF 00 02|false true false",
		"where a = true and b = false":                "abc|12 11|12 12|false true false",
		// If several fix a name the first one counts.
		"where a = 1 and a = 2":               "abc|13 81 01|13 81 02|false true false",
		"where a = 2 and a is null":           "abc|13 81 02|13 81 03|false true false",
		"where a is null and a = 2":           "abc|10|11|false true false",
		"where a is null and a = 2 and a = 3": "abc|10|11|false true false",
		// Only = and is null fix, and only tests that are parts.
		"where a in (1)":                               "|||true false false",
		"where a <> 1":                                 "|||true false false",
		"where a is not null":                          "|||true false false",
		"where not a = 1":                              "|||true false false",
		"where not not a = 1":                          "|||true false false",
		"where a = 1 or a = 1":                         "|||true false false",
		"where (a = 1 or b = 2) and b = 2":             "|||true false false",
		"where (a = 1 and c = 2) and b = 2":            "abc|13 81 01 13 81 02 13 81 02|13 81 01 13 81 02 13 81 03|false false false",
		"where b = 2 and (c = 1 or d = 1) and (a = 1)": "abc|13 81 01 13 81 02|13 81 01 13 81 03|false true false",
		"where ((a = 1))":                              "abc|13 81 01|13 81 02|false true false",
		"where a = 1 or b = 2 and a = 1":               "|||true false false",
	} {
		plans(t, text, abc, want)
	}
}

// P20.5: bounded from below and from above.
func TestPlanOfBounds(t *testing.T) {
	a := []api.Index{by("a", "a")}
	for text, want := range map[string]string{
		"a > 1": "13 81 02|14", "a >= 1": "13 81 01|14", "a < 1": "13|13 81 01", "a <= 1": "13|13 81 02", "a between 1 and 3": "13 81 01|13 81 04",
		"a > 255": "13 82|14", "a <= 255": "13|13 82",
		"a > 1 and a < 3": "13 81 02|13 81 03", "a < 3 and a > 1": "13 81 02|13 81 03", "a >= 1 and a <= 3": "13 81 01|13 81 04",
		// The first one from each side counts.
		"a > 1 and a > 5": "13 81 02|14", "a > 5 and a > 1": "13 81 06|14", "a < 5 and a <= 1": "13|13 81 05", "a >= 1 and a > 1 and a < 9 and a <= 2": "13 81 01|13 81 09",
		"a between 2 and 5 and a > 3 and a < 4": "13 81 02|13 81 06", "a > 3 and a between 2 and 5 and a < 4": "13 81 04|13 81 06", "a < 4 and a between 2 and 5": "13 81 02|13 81 04",
		// What is empty is told all the same.
		"a > 5 and a < 1": "13 81 06|13 81 01", "a between 5 and 1": "13 81 05|13 81 02",
		// The first part says the class; what is of another one counts for nothing.
		`a > 1 and a < "x"`: "13 81 02|14", `a < "x" and a > 1`: "16|16 78 00 01", `a > 1 and a > "x" and a < "y" and a < 7`: "13 81 02|13 81 07", `a between 1 and "x"`: "13 81 01|14", `a between "x" and 1`: "16 78 00 01|17",
		`a between 1 and "x" and a < 9`: "13 81 01|13 81 09", `a between "x" and 1 and a > 3 and a < "z" and a >= "y"`: "16 78 00 01|16 7A 00 01", `a > 1 and a between "x" and 5`: "13 81 02|13 81 06", `a > 1.5 and a < 2`: "14 BF F8 00 00 00 00 00 01|15",
		`a between 1 and "x" and a between "b" and 7`: "13 81 01|13 81 08",
		// False and True are one class.
		"a >= false": "11|13", "a > false": "12|13", "a <= true": "11|13", "a < true": "11|12", "a >= false and a <= true": "11|13", "a > true": "13|13", "a < false": "11|11", "a >= true and a < 7": "12|13",
		"a > x'00'": "15 00 FF 00 02|16", "a < x''": "15|15 00 01", `a >= ""`: "16 00 01|17", `a <= "x"`: "16|16 78 00 02", "a < 1.0": "14|14 BF F0 00 00 00 00 00 00", "a > inf": "14 FF F0 00 00 00 00 00 01|15",
		"a >= nan:7fffffffffffffff": "14 FF FF FF FF FF FF FF FF|15", "a > nan:7fffffffffffffff": "15|15",
	} {
		plans(t, "where "+text, a, "a|"+want+"|false true false")
		key := strings.ReplaceAll(text, "a ", "key ")
		plans(t, "where "+key, a, "|"+want+"|false false false")
		// Behind a fixed step the bounds stand behind its bytes.
		bounds := strings.Split(want, "|")
		plans(t, "where "+text+" and b = 1 order by a", []api.Index{by("ba", "b", "a")}, "ba|13 81 01 "+bounds[0]+"|13 81 01 "+bounds[1]+"|false false false")
	}
	for _, text := range []string{"not a > 1", "a > 1 or a < 0", "not a between 1 and 2", "a <> 1", "a in (1, 2)", "a is not null", "b > 1", "(a > 1 or a < 0) and b > 1"} {
		plans(t, "where "+text, a, "|||true false false")
	}
	// What is fixed is not bounded beside it; the step behind is.
	plans(t, "where a = 1 and a > 5 and key < 3", a, "a|13 81 01 13|13 81 01 13 81 03|false false false")
	plans(t, "where a > 5 and a = 1", a, "a|13 81 01|13 81 02|false false false")
	// A bound behind a step that is neither fixed nor bounded counts for nothing.
	plans(t, "where b > 5", []api.Index{by("ab", "a", "b")}, "|||true false false")
	plans(t, "where a > 5 and b = 5", []api.Index{by("ab", "a", "b")}, "ab|13 81 06|14|false true false")
}

// P20.5: the most fixed steps, then a bound, then the table itself, then the first one in the list.
func TestPlanOfTheBestRoad(t *testing.T) {
	for _, c := range []struct {
		text    string
		indexes []api.Index
		want    string
	}{
		{"where a = 1 and b = 1", []api.Index{by("a", "a"), by("ab", "a", "b"), by("ba", "b", "a")}, "ab"},
		{"where a = 1 and b = 1", []api.Index{by("a", "a"), by("ba", "b", "a"), by("ab", "a", "b")}, "ba"},
		{"where a = 1 and b > 1", []api.Index{by("a", "a"), by("b", "b"), by("ab", "a", "b")}, "ab"},
		{"where a = 1 and b > 1", []api.Index{by("b", "b"), by("a", "a")}, "a"},
		{"where a = 1 and b > 1", []api.Index{by("b", "b"), by("a", "a"), by("a2", "a", "c")}, "a"},
		{"where a > 1", []api.Index{by("b", "b"), by("a", "a"), by("a2", "a")}, "a"},
		{"where a > 1 and b > 1", []api.Index{by("b", "b"), by("a", "a")}, "b"},
		{"where a > 1 and key > 1", []api.Index{by("a", "a")}, ""},
		{"where a = 1 and key > 1", []api.Index{by("a", "a")}, "a"},
		{"where a = 1 and key = 1", []api.Index{by("b", "b", "a"), by("a", "a")}, "a"},
		{"where a = 1 and key = 1", []api.Index{by("ab", "a", "b")}, ""},
		{"where a = 1 and key = 1 and b > 3", []api.Index{by("a2", "a", "c"), by("ab", "a", "b"), by("ab2", "a", "b")}, "ab"},
		{"where key = 1", []api.Index{by("a", "a")}, ""},
		{"where c = 1 and b = 1 and a = 1 and d > 1", []api.Index{by("abc", "a", "b", "c"), by("abcd", "a", "b", "c", "d")}, "abcd"},
		{"order by a", []api.Index{by("a", "a")}, ""},
		{"where a in (1)", []api.Index{by("a", "a")}, ""},
		{"where a = 1", nil, ""},
		{"where a = 1", []api.Index{alone("u", "a"), by("a", "a")}, "u"},
	} {
		same(t, fmt.Sprintf("the road of %q with %v", c.text, c.indexes), ask(t, c.text).Plan(c.indexes).Index, c.want)
	}
}

// P20.5: when what comes is sorted afterwards, and which way it comes.
func TestPlanOfOrders(t *testing.T) {
	ab := []api.Index{by("ab", "a", "b")}
	up, down, sort := "false false", "false true", "true false"
	for text, want := range map[string]string{
		"": up, "order by key": sort, "order by key desc": sort, "order by a": sort, "limit 3": up,
		"where a = 1": sort, "where a = 1 order by b": up, "where a = 1 order by b asc": up, "where a = 1 order by b desc": down, "where a = 1 order by b, key": sort, "where a = 1 order by key": sort, "where a = 1 order by b, b": sort,
		"where a = 1 order by a": sort, "where a = 1 order by a, b": up, "where a = 1 order by a desc, b": up, "where a = 1 order by b, a": up, "where a = 1 order by b desc, a desc": down, "where a = 1 order by a, b desc": down,
		"where a = 1 order by b, a desc": sort, "where a = 1 order by b desc, a": sort, "where a = 1 order by a, b, a": up, "where a = 1 order by a desc, b, a desc": sort, "where a = 1 order by c": sort, "where a = 1 order by b, c": sort, "where a = 1 order by c, b": sort,
		"where a = 1 and b > 2": sort, "where a = 1 and b > 2 order by b": up, "where a = 1 and b between 2 and 3 order by b desc": down, "where a > 1": sort, "where a > 1 order by a": sort, "where a > 1 order by a, b": up, "where a > 1 order by a desc, b desc": down,
		"where a > 1 order by a desc, b": sort, "where a > 1 order by a, b desc": sort, "where a > 1 order by b, a": sort, "where a > 1 order by a, b, key": sort,
		"where a = 1 and b = 2": up, "where a = 1 and b = 2 order by a, b": up, "where a = 1 and b = 2 order by b, a desc": down, "where a = 1 and b = 2 order by a desc, b": up, "where a = 1 and b = 2 order by key": sort, "where a = 1 and b = 2 order by key desc": sort, "where a = 1 and b = 2 order by c": sort,
		"where a = 1 and b = 2 order by c, a desc": sort, "where a = 1 and b = 2 and key > 7": up, "where a = 1 and b = 2 and key > 7 order by a desc": down,
		// Where all steps are fixed.
		"where key = 1": up, "where key = 1 order by key": up, "where key = 1 order by key desc": up, "where key = 1 order by a": sort, "where key = 1 order by key, a desc": sort,
		"where a = 1 and b = 2 and key = 3": up, "where a = 1 and b = 2 and key = 3 order by key desc, a desc": up, "where a = 1 and b = 2 and key = 3 order by c desc": sort, "where a = 1 and b = 2 and key = 3 order by c": sort,
		"where key > 7": up, "where key > 7 order by key": sort, "where key is null order by key desc": up,
	} {
		p := ask(t, text).Plan(ab)
		same(t, "Sort and Reverse of "+text, fmt.Sprint(p.Sort, p.Reverse), want)
	}
}

// P20.5: of any indexes, whatever they are named, and whatever they go by.
func TestPlanOfAnyIndexes(t *testing.T) {
	long := strings.Repeat("n", 5000)
	for _, c := range []struct {
		text  string
		index api.Index
		want  string
	}{
		{"where a = 1", by("", "a"), "|13 81 01|13 81 02|false false false"},
		{"where a = 1", by("A b\x00", "a"), "A b\x00|13 81 01|13 81 02|false false false"},
		{"where a = 1", by(long, "a"), long + "|13 81 01|13 81 02|false false false"},
		{"where a = 1", by("none"), "|||true false false"},
		{"where key = 1", by("none"), "|13 81 01|13 81 02|false false false"},
		{"where a = 1", by("x", "", "a"), "|||true false false"},
		{"where a = 1", by("x", "a", ""), "x|13 81 01|13 81 02|false true false"},
		{"where a = 1", by("x", "a", "a"), "x|13 81 01 13 81 01|13 81 01 13 81 02|false false false"},
		{"where a > 1 order by a, a", by("x", "a", "a"), "x|13 81 02|14|false false false"},
		{"where a > 1 order by a", by("x", "a", "a"), "x|13 81 02|14|false true false"},
		{"where key = 1", by("x", "key"), "x|13 81 01 13 81 01|13 81 01 13 81 02|false false false"},
		{"where key = 1 and a > 2 order by a", by("x", "key", "a"), "x|13 81 01 13 81 03|13 81 01 14|false false false"},
		{"where a = 1 order by key", by("x", "a", "key"), "x|13 81 01|13 81 02|false false false"},
		{"where a = 1 order by key desc", by("x", "a", "key"), "x|13 81 01|13 81 02|false false true"},
		{"where a = 1", by("x", slices.Repeat([]string{"a"}, 1000)...), "x|" + strings.Repeat("13 81 01 ", 999) + "13 81 01|" + strings.Repeat("13 81 01 ", 999) + "13 81 02|false false false"},
	} {
		plans(t, c.text, []api.Index{c.index}, c.want)
	}
	many := make([]api.Index, 3000)
	for i := range many {
		many[i] = by(fmt.Sprint("x", i), "z")
	}
	plans(t, "where a = 1 order by b desc", append(many, by("ab", "a", "b"), by("ab2", "a", "b")), "ab|13 81 01|13 81 02|false false true")
}

// drawnIndexes is some indexes over the fields of drawn records.
func drawnIndexes(r *rand.Rand) []api.Index {
	var l []api.Index
	for i := range r.Intn(5) {
		fields := append(namesOfFields(), "none")
		r.Shuffle(len(fields), func(i, j int) { fields[i], fields[j] = fields[j], fields[i] })
		l = append(l, by(fmt.Sprint("x", i), fields[:1+r.Intn(4)]...))
	}
	return l
}

// P20.5: drawn questions and indexes, beside the chapter's words; and each record that fits lies where the plan says.
func TestDrawnPlans(t *testing.T) {
	t.Parallel()
	r := chance()
	kinds := map[string]int{}
	for range 12000 {
		a, indexes := drawnQuestion(r, 1+r.Intn(6)), drawnIndexes(r)
		p := ask(t, loose(r, a.source(r))).Plan(indexes)
		same(t, fmt.Sprintf("Plan of %s with %v", a.text(), indexes), plan(p), plan(a.plan(indexes)))
		kinds[fmt.Sprint(p.Index != "", p.Open, p.Sort, p.Reverse)]++
		for range 3 {
			if record := drawnRecord(r); a.fits(record) {
				within(t, a, p, indexes, record)
			}
		}
		stop(t)
	}
	same(t, "the kinds of plans that were drawn", len(kinds), 7)
}

// within holds that a record lies in a plan's stretch.
func within(t *testing.T, a *asked, p api.Plan, indexes []api.Index, r api.Record) {
	t.Helper()
	at := coded(r.Key)
	if i := slices.IndexFunc(indexes, func(x api.Index) bool { return x.Name == p.Index }); i >= 0 {
		b, e := index.Entry(indexes[i], r)
		same(t, "Entry", e, api.OK)
		at = string(b)
	}
	if at < string(p.Lo) || !p.Open && at >= string(p.Hi) {
		t.Errorf("%s: %s, % X, lies not within %s", a.text(), form(r), at, plan(p))
	}
}
