package multi_test

import (
	"fmt"
	"strings"
	"testing"

	"espalier/api"
	"espalier/grove"
	"espalier/multi"
)

// The chapter's table of examples, row by row.
func TestExamples(t *testing.T) {
	for _, engine := range engines() {
		g := grove.Open(api.NewBench(engine, 512, 400), 0, 0)
		same(t, "a multi over no grove", multi.Open(nil, "m"), nil)
		is, e := multi.Open(g, "x").Add([]byte("a"), []byte("1"))
		same(t, "Add where there is no tree", e, api.ErrNoTree)
		same(t, "Add where there is no tree", is, false)
		same(t, "Make", g.Make("m"), api.OK)
		m := multi.Open(g, "m")
		examplesOfAdd(t, g, m)
		examplesOfLooks(t, m)
		examplesOfGoing(t, m)
		examplesOfLength(t, m)
		_, e = g.Put("m", []byte("a"), nil)
		same(t, "Put", e, api.OK)
		l, e := m.Keys(nil, nil)
		same(t, "Keys of a tree with a foreign entry", e, api.ErrNone)
		same(t, "Keys of a tree with a foreign entry", len(l), 0)
		l, e = m.Values([]byte("a"))
		same(t, "Values beside it", e, api.OK)
		same(t, "Values beside it", len(l), 0)
	}
}

func examplesOfAdd(t *testing.T, g *grove.Grove, m *multi.Multi) {
	t.Helper()
	for _, x := range []struct {
		key, value string
		want       bool
	}{{"a", "1", true}, {"a", "1", false}, {"a", "", true}, {"", "2", true}, {"a\x00", "3", true}} {
		is, e := m.Add([]byte(x.key), []byte(x.value))
		same(t, fmt.Sprintf("Add(%q, %q)", x.key, x.value), e, api.OK)
		same(t, fmt.Sprintf("Add(%q, %q)", x.key, x.value), is, x.want)
	}
	var l []string
	for p, e := range g.Scan("m", nil, nil, false) {
		same(t, "Scan", e, api.OK)
		same(t, "an entry's value", len(p.Value), 0)
		l = append(l, fmt.Sprintf("% X", p.Key))
	}
	same(t, "the keys of the tree's entries", strings.Join(l, "; "), "00 01 32; 61 00 01; 61 00 01 31; 61 00 FF 00 01 33")
}

func examplesOfLooks(t *testing.T, m *multi.Multi) {
	t.Helper()
	l, e := m.Values([]byte("a"))
	same(t, "Values of a", e, api.OK)
	sameList(t, "Values of a", texts(l), []string{"", "1"})
	n, e := m.Count([]byte("a"))
	same(t, "Count of a", e, api.OK)
	same(t, "Count of a", n, 2)
	l, e = m.Values([]byte("b"))
	same(t, "Values of b", e, api.OK)
	same(t, "Values of b", len(l), 0)
	for value, want := range map[string]bool{"1": true, "2": false} {
		is, e := m.Has([]byte("a"), []byte(value))
		same(t, "Has", e, api.OK)
		same(t, "Has of a, "+value, is, want)
	}
	for _, x := range []struct {
		lo, hi string
		want   []string
	}{{"", "", []string{"", "a", "a\x00"}}, {"a", "", []string{"a", "a\x00"}}, {"", "a", []string{""}}, {"a", "a", nil}} {
		l, e := m.Keys([]byte(x.lo), []byte(x.hi))
		same(t, "Keys", e, api.OK)
		sameList(t, fmt.Sprintf("Keys(%q, %q)", x.lo, x.hi), texts(l), x.want)
	}
}

func examplesOfGoing(t *testing.T, m *multi.Multi) {
	t.Helper()
	for _, want := range []bool{true, false} {
		is, e := m.Remove([]byte("a"), []byte("1"))
		same(t, "Remove", e, api.OK)
		same(t, "Remove", is, want)
	}
	for _, want := range []int{1, 0} {
		n, e := m.Clear([]byte("a"))
		same(t, "Clear", e, api.OK)
		same(t, "Clear", n, want)
	}
}

func examplesOfLength(t *testing.T, m *multi.Multi) {
	t.Helper()
	for _, x := range []struct {
		length int
		value  string
		want   api.Errno
	}{{62, "1", api.ErrSize}, {61, "1", api.OK}, {62, "", api.OK}} {
		is, e := m.Add([]byte(strings.Repeat("k", x.length)), []byte(x.value))
		same(t, fmt.Sprintf("Add of a key of %d bytes, %q", x.length, x.value), e, x.want)
		same(t, fmt.Sprintf("Add of a key of %d bytes, %q", x.length, x.value), is, x.want == api.OK)
	}
}
