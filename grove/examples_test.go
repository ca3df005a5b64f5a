package grove_test

import (
	"slices"
	"strings"
	"testing"

	"espalier/api"
	"espalier/grove"
)

// The chapter's table of examples, row by row, on the bench of which it tells.
func TestExamples(t *testing.T) {
	for _, engine := range engines() {
		r := api.NewBench(engine, 512, 400)
		g := grove.Open(r, 0, 0)
		same(t, `Make("a")`, g.Make("a"), api.OK)
		same(t, `Make("a") again`, g.Make("a"), api.ErrThere)
		same(t, `Make("A")`, g.Make("A"), api.ErrName)
		same(t, `Make("")`, g.Make(""), api.ErrName)
		names, e := g.Names()
		same(t, "Names", e, api.OK)
		sameList(t, "Names", names, []string{"a"})
		root, n := g.Root()
		same(t, "Root is a page", root >= 2, true)
		same(t, "Root", n, 1)
		examplesOfPairs(t, g)
		examplesOfRanges(t, g)
		examplesOfLoad(t, g)
		same(t, `Drop("a")`, g.Drop("a"), api.OK)
		same(t, `Drop("a") again`, g.Drop("a"), api.ErrNoTree)
		names, e = g.Names()
		same(t, "Names of none", e, api.OK)
		same(t, "Names of none", len(names), 0)
		same(t, "pages left", len(r.Taken()), 0)
		same(t, "a bench of 12 pages", grove.Open(api.NewBench(engine, 512, 12), 0, 0).Make("a"), api.ErrFull)
		same(t, "a bench of 13 pages", grove.Open(api.NewBench(engine, 512, 13), 0, 0).Make("a"), api.ErrFull)
		same(t, "a bench of 14 pages", grove.Open(api.NewBench(engine, 512, 14), 0, 0).Make("a"), api.OK)
	}
}

func examplesOfPairs(t *testing.T, g *grove.Grove) {
	t.Helper()
	put := func(name, key, value string, was bool, want api.Errno) {
		t.Helper()
		is, e := g.Put(name, []byte(key), []byte(value))
		same(t, "Put("+name+", "+key+")", e, want)
		same(t, "Put("+name+", "+key+")", is, was)
	}
	v200 := long(200, 'v')
	put("a", "k", "\x01\x02", false, api.OK)
	put("a", "k", v200, true, api.OK)
	v, is, e := g.Get("a", []byte("k"))
	same(t, "Get", e, api.OK)
	same(t, "Get", is, true)
	sameText(t, "Get", string(v), v200)
	n, e := g.Len("a")
	same(t, "Len", e, api.OK)
	same(t, "Len", n, 1)
	put("b", "", "\x01", false, api.ErrNoTree)
	put("a", "", "\x01", false, api.ErrSize)
	put("a", strings.Repeat("k", 65), "\x01", false, api.ErrSize)
	put("a", "k", long(65537, 'v'), false, api.ErrSize)
	v, is, e = g.Get("a", nil)
	same(t, "Get of no byte", e, api.OK)
	same(t, "Get of no byte", is, false)
	same(t, "Get of no byte", len(v), 0)
	is, e = g.Delete("a", nil)
	same(t, "Delete of no byte", e, api.ErrSize)
	same(t, "Delete of no byte", is, false)
	is, e = g.Delete("a", []byte("x"))
	same(t, "Delete of what is not there", e, api.OK)
	same(t, "Delete of what is not there", is, false)
	_, is, e = g.Get("b", []byte("k"))
	same(t, "Get in no tree", e, api.ErrNoTree)
	same(t, "Get in no tree", is, false)
	put("a", "m", "\x03", false, api.OK)
	n, e = g.Rank("a", []byte("l"))
	same(t, "Rank", e, api.OK)
	same(t, "Rank", n, 1)
	p, is, e := g.At("a", 1)
	same(t, "At(1)", e, api.OK)
	same(t, "At(1)", is, true)
	same(t, "At(1)", asPair(p), pair{"m", "\x03"})
	p, is, e = g.At("a", 2)
	same(t, "At(2)", e, api.OK)
	same(t, "At(2)", is, false)
	same(t, "At(2)", asPair(p), pair{})
}

func examplesOfRanges(t *testing.T, g *grove.Grove) {
	t.Helper()
	k, m := pair{"k", long(200, 'v')}, pair{"m", "\x03"}
	for _, x := range []struct {
		lo, hi  string
		reverse bool
		want    []pair
	}{{"", "", true, []pair{m, k}}, {"l", "", false, []pair{m}}, {"k", "m", false, []pair{k}}} {
		l, e := scanned(g, "a", x.lo, x.hi, x.reverse, 9)
		same(t, "Scan", e, api.OK)
		samePairs(t, "Scan", l, x.want)
	}
	count := 0
	for p, e := range g.Scan("b", []byte("l"), nil, false) {
		count++
		same(t, "Scan of no tree", e, api.ErrNoTree)
		same(t, "Scan of no tree", asPair(p), pair{})
	}
	same(t, "Scan of no tree: how often", count, 1)
}

func examplesOfLoad(t *testing.T, g *grove.Grove) {
	t.Helper()
	for _, x := range []struct {
		l []pair
		n int
		e api.Errno
	}{
		{row("c", "1", "b", "2"), 0, api.ErrSorted}, {row("b", "1", "", "2"), 0, api.ErrSize},
		{row("b", "2", "c", "1"), 2, api.OK}, {nil, 0, api.OK},
	} {
		before, _ := scanned(g, "a", "", "", false, 9)
		n, e := g.Load("a", tells(x.l...).all())
		same(t, "Load", e, x.e)
		same(t, "Load", n, x.n)
		want := slices.Clone(x.l)
		if x.e != api.OK {
			want = before
		}
		l, _ := scanned(g, "a", "", "", false, 9)
		samePairs(t, "what was loaded", l, want)
	}
}
