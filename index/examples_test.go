package index_test

import (
	"fmt"
	"slices"
	"strings"
	"testing"

	"espalier/api"
	"espalier/grove"
	"espalier/index"
)

func city() api.Index { return by("city", "city", "age") }

func mail() api.Index { return alone("mail", "mail") }

// The chapter's table of examples, row by row.
func TestExamples(t *testing.T) {
	for _, engine := range engines() {
		g := grove.Open(api.NewBench(engine, 512, 400), 0, 0)
		examplesOfNone(t, g)
		x := makes(t, g, "p", city(), mail())
		sameNames(t, g, "i/p/city", "i/p/mail", "t-indexes", "t/p")
		again, e := index.Make(g, "p", nil)
		same(t, "Make again", fmt.Sprint(again != nil, e), "false 151")
		told, is, e := g.Get("t-indexes", []byte("p"))
		same(t, "the value of p in t-indexes", fmt.Sprintf("% X %v %d", told, is, e), "17 16 63 69 74 79 00 01 11 17 16 63 69 74 79 00 01 16 61 67 65 00 01 00 00 17 16 6D 61 69 6C 00 01 12 17 16 6D 61 69 6C 00 01 00 00 true 0")
		examplesOfPut(t, x)
		examplesOfScan(t, x)
		examplesOfRefusals(t, x)
		examplesOfGoing(t, x)
		was, e := g.Put("i/p/city", []byte{0x10}, nil)
		same(t, "a foreign entry", fmt.Sprint(was, e), "false 0")
		name, e := x.Check()
		same(t, "Check of a foreign entry", fmt.Sprintf("%q %d", name, e), `"city" 193`)
		same(t, "Drop", index.Drop(g, "p"), api.OK)
		n, e := x.Len()
		same(t, "Len of none", fmt.Sprint(n, e), "0 191")
		same(t, "Indexes of none", len(x.Indexes()), 0)
		sameNames(t, g, "t-indexes")
	}
}

func sameNames(t *testing.T, g *grove.Grove, want ...string) {
	t.Helper()
	names, e := g.Names()
	same(t, "Names", e, api.OK)
	sameList(t, "Names", names, want)
}

func examplesOfNone(t *testing.T, g *grove.Grove) {
	t.Helper()
	for _, c := range []struct {
		g       *grove.Grove
		name    string
		indexes []api.Index
		want    api.Errno
	}{{nil, "p", nil, api.ErrArg}, {g, "P", nil, api.ErrTable}, {g, "p", []api.Index{{Name: "x"}}, api.ErrIndex}} {
		x, e := index.Make(c.g, c.name, c.indexes)
		same(t, fmt.Sprintf("Make(%q, %v)", c.name, c.indexes), fmt.Sprint(x != nil, e), fmt.Sprint(false, c.want))
	}
	x, e := index.Open(g, "p")
	same(t, "Open of none", fmt.Sprint(x != nil, e), "false 191")
}

func puts(t *testing.T, x *index.Table, r api.Record, was bool, want api.Errno) {
	t.Helper()
	is, e := x.Put(r)
	same(t, "Put("+form(r)+")", fmt.Sprint(is, e), fmt.Sprint(was, want))
}

func examplesOfPut(t *testing.T, x *index.Table) {
	t.Helper()
	puts(t, x, rec(num(1), "age", num(30), "city", word("b"), "mail", word("x")), false, api.OK)
	puts(t, x, rec(num(2), "city", word("a")), false, api.OK)
	n, e := x.Len()
	same(t, "Len", fmt.Sprint(n, e), "2 0")
	b, e := index.Entry(city(), rec(num(2), "city", word("a")))
	same(t, "Entry", fmt.Sprintf("% X %d", b, e), "16 61 00 01 10 13 81 02 0")
	puts(t, x, rec(num(3), "mail", word("x")), false, api.ErrUnique)
	puts(t, x, rec(num(3), "mail", null()), false, api.OK)
	puts(t, x, rec(num(2), "mail", null()), true, api.OK)
	r, is, e := x.Get(num(2))
	same(t, "2 has no city any more", fmt.Sprint(form(r), is, e), fmt.Sprint(form(rec(num(2), "mail", null())), true, 0))
}

func examplesOfScan(t *testing.T, x *index.Table) {
	t.Helper()
	for _, c := range []struct {
		name, lo, hi  string
		open, reverse bool
		want          []int64
	}{
		{"city", "", "", true, false, []int64{2, 3, 1}},
		{"city", "\x16", "", true, false, []int64{1}},
		{"city", "", "\x11", false, true, []int64{3, 2}},
		{"", "", "", false, false, nil},
	} {
		l, e := told(x.Scan(c.name, []byte(c.lo), []byte(c.hi), c.open, c.reverse))
		same(t, "Scan", e, api.OK)
		sameList(t, fmt.Sprintf("Scan(%q, %q, %q)", c.name, c.lo, c.hi), keysOf(l), c.want)
	}
	var entries []string
	for r := range x.Scan("city", nil, nil, true, false) {
		b, e := index.Entry(city(), r)
		same(t, "Entry", e, api.OK)
		entries = append(entries, fmt.Sprintf("% X", b))
	}
	sameList(t, "entries", entries, []string{"10 10 13 81 02", "10 10 13 81 03", "16 62 00 01 13 81 1E 13 81 01"})
}

// keysOf is the numbers of the records' keys.
func keysOf(l []api.Record) []int64 {
	var keys []int64
	for _, r := range l {
		keys = append(keys, r.Key.Num)
	}
	return keys
}

func examplesOfRefusals(t *testing.T, x *index.Table) {
	t.Helper()
	puts(t, x, rec(num(4), "b", num(1), "a", num(2)), false, api.ErrField)
	puts(t, x, rec(num(4), "key", num(1)), false, api.ErrField)
	puts(t, x, rec(word(strings.Repeat("x", 80))), false, api.ErrSize)
	puts(t, x, rec(num(4), "city", word(strings.Repeat("x", 60))), false, api.ErrSize)
}

func examplesOfGoing(t *testing.T, x *index.Table) {
	t.Helper()
	r, is, e := x.Get(num(1))
	same(t, "Get(1)", fmt.Sprint(form(r), is, e), fmt.Sprint(form(rec(num(1), "age", num(30), "city", word("b"), "mail", word("x"))), true, 0))
	r, is, e = x.Get(num(7))
	same(t, "Get(7)", fmt.Sprint(form(r), is, e), fmt.Sprint(form(api.Record{}), false, 0))
	is, e = x.Delete(num(7))
	same(t, "Delete(7)", fmt.Sprint(is, e), "false 0")
	is, e = x.Delete(num(1))
	same(t, "Delete(1)", fmt.Sprint(is, e), "true 0")
	name, e := x.Check()
	same(t, "Check", fmt.Sprintf("%q %d", name, e), `"" 0`)
	l, _ := told(x.Scan("", nil, nil, true, false))
	same(t, "what is left", slices.Equal(keysOf(l), []int64{2, 3}), true)
}
