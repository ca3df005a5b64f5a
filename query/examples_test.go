package query_test

import (
	"fmt"
	"testing"

	"espalier/api"
)

// The chapter's first table of examples, row by row.
func TestExamplesOfTexts(t *testing.T) {
	refused(t, "wher", 0, api.ErrQuery)
	refused(t, "where", 5, api.ErrQuery)
	refused(t, "where a", 7, api.ErrQuery)
	refused(t, "where a = ", 10, api.ErrQuery)
	refused(t, "where a = b", 10, api.ErrWord)
	refused(t, "where 1 = a", 6, api.ErrWord)
	refused(t, "where not", 9, api.ErrQuery)
	refused(t, "where a = 1 b", 12, api.ErrQuery)
	refused(t, "limit -1", 6, api.ErrWord)
	refused(t, "limit x", 6, api.ErrWord)
	writes(t, `where (a=1 and (b<2.5)) and not (c is not null or d in(1,"x")) order by c desc , a asc limit 5`,
		`where a = 1 and b < 0x1.4p+01 and not (not c is null or d in (1, "x")) order by c desc, a limit 5`)
	three := []api.Record{rec(num(1), "a", num(2)), rec(num(1), "a", float(2)), rec(num(1))}
	for text, want := range map[string]string{"where a > 1": "[true false false]", "where not a > 1": "[false true true]"} {
		var got []bool
		for _, r := range three {
			got = append(got, ask(t, text).Fits(r))
		}
		same(t, "Fits of "+text, fmt.Sprint(got), want)
	}
}

// The chapter's second table of examples, row by row.
func TestExamplesOfPlans(t *testing.T) {
	ab := []api.Index{by("ab", "a", "b")}
	plans(t, "", ab, "|||true false false")
	plans(t, "where a = 1", ab, "ab|13 81 01|13 81 02|false true false")
	plans(t, "where a = 1 order by b", ab, "ab|13 81 01|13 81 02|false false false")
	plans(t, "where a = 1 order by b desc, key desc", ab, "ab|13 81 01|13 81 02|false true false")
	plans(t, "where a = 1 order by b desc", ab, "ab|13 81 01|13 81 02|false false true")
	plans(t, "where a = 1 and b >= 3 and b < 5", ab, "ab|13 81 01 13 81 03|13 81 01 13 81 05|false true false")
	plans(t, `where a is null and b > "x"`, ab, "ab|10 16 78 00 02|10 17|false true false")
	plans(t, "where b = 1", ab, "|||true false false")
	plans(t, "where a = 1 or b = 2", ab, "|||true false false")
	plans(t, "where not a = 1", ab, "|||true false false")
	plans(t, "where key > 7 order by key desc", ab, "|13 81 08|14|false true false")
}
