package multi_test

import (
	"fmt"
	"strings"
	"testing"

	"espalier/api"
	"espalier/grove"
	"espalier/multi"
)

// noTree holds what a multi answers against what it has to, where its tree is not there.
func noTree(t *testing.T, what string, m *multi.Multi) {
	t.Helper()
	k, v := []byte("k"), []byte("v")
	is, e := m.Add(k, v)
	same(t, what+": Add", fmt.Sprint(is, e), "false 150")
	is, e = m.Add([]byte(strings.Repeat("k", 70)), v)
	same(t, what+": Add of a long key", fmt.Sprint(is, e), "false 150")
	is, e = m.Remove(k, v)
	same(t, what+": Remove", fmt.Sprint(is, e), "false 150")
	is, e = m.Has(k, v)
	same(t, what+": Has", fmt.Sprint(is, e), "false 150")
	n, e := m.Clear(k)
	same(t, what+": Clear", fmt.Sprint(n, e), "0 150")
	n, e = m.Count(k)
	same(t, what+": Count", fmt.Sprint(n, e), "0 150")
	l, e := m.Values(k)
	same(t, what+": Values", fmt.Sprint(len(l), e), "0 150")
	for _, hi := range []string{"", "k", "a", "z"} {
		l, e = m.Keys(k, []byte(hi))
		same(t, what+": Keys", fmt.Sprint(len(l), e), "0 150")
	}
	all, e := gone(m, 1<<30)
	same(t, what+": All", fmt.Sprint(len(all), e), "0 150")
}

// P16.1: over no grove there is none; over a grove there is one, whatever the name, and nothing is read for it.
func TestOpen(t *testing.T) {
	for _, engine := range engines() {
		r := newRoom(engine, 512, 100)
		g := grove.Open(r, 0, 0)
		for _, name := range []string{"", "m", "M", "no name", "\x00", "\xff", strings.Repeat("n", 64), strings.Repeat("n", 65), strings.Repeat("n", 70000)} {
			same(t, "over no grove", multi.Open(nil, name), nil)
			m := multi.Open(g, name)
			if m == nil {
				t.Fatalf("no multi of the name %.20q", name)
			}
			same(t, "asked at Open", len(r.acts), 0)
			noTree(t, fmt.Sprintf("the empty grove, the name %.20q", name), m)
		}
		same(t, "Make", g.Make("other"), api.OK)
		for _, name := range []string{"", "m", "othe", "others", "Other", strings.Repeat("n", 65)} {
			noTree(t, fmt.Sprintf("a grove with another tree, the name %.20q", name), multi.Open(g, name))
		}
		r.acts = nil
		multi.Open(g, "other")
		same(t, "asked at Open", len(r.acts), 0)
	}
}

// P16.1: whether there is such a tree is seen at each call: it is made, dropped and made again later.
func TestTreesThatComeAndGo(t *testing.T) {
	for _, engine := range engines() {
		g := grove.Open(newRoom(engine, 512, 100), 0, 0)
		m := multi.Open(g, "m")
		all := m.All()
		for i := range 3 {
			noTree(t, fmt.Sprint("no tree, ", i), m)
			for p, e := range all {
				same(t, "All where there is no tree", fmt.Sprintf("%q %d", asPair(p), e), `{"" ""} 150`)
			}
			same(t, "Make", g.Make("m"), api.OK)
			n, e := m.Count([]byte("k"))
			same(t, "Count in a new tree", fmt.Sprint(n, e), "0 0")
			for range all {
				t.Error("All of a new tree tells something")
			}
			is, e := m.Add([]byte("k"), []byte("v"))
			same(t, "Add in a new tree", fmt.Sprint(is, e), "true 0")
			told := 0
			for p, e := range all {
				same(t, "All", fmt.Sprintf("%q %d", asPair(p), e), `{"k" "v"} 0`)
				told++
			}
			same(t, "pairs that All tells", told, 1)
			same(t, "Drop", g.Drop("m"), api.OK)
		}
	}
}

// P16.1, R6: two multis over one tree are one; those over two trees have nothing in common.
func TestMultisBesideEachOther(t *testing.T) {
	for _, engine := range engines() {
		b := newBed(t, "beside each other", engine, 512, 400)
		b.must("Make", b.g.Make("n"))
		twin, other := multi.Open(b.g, "m"), multi.Open(b.g, "n")
		for i := range 40 {
			key, value := fmt.Sprint("k", i%7), fmt.Sprint(i)
			b.add(key, value)
			is, e := twin.Has([]byte(key), []byte(value))
			same(t, "Has of the other one over that tree", fmt.Sprint(is, e), "true 0")
			is, e = other.Has([]byte(key), []byte(value))
			same(t, "Has of one over another tree", fmt.Sprint(is, e), "false 0")
		}
		n, e := twin.Clear([]byte("k3"))
		same(t, "Clear", fmt.Sprint(n, e), "6 0")
		l, e := b.m.Values([]byte("k3"))
		same(t, "Values behind the other one's Clear", fmt.Sprint(len(l), e), "0 0")
		all, e := gone(other, 1<<30)
		same(t, "All of one over another tree", fmt.Sprint(len(all), e), "0 0")
		all, e = gone(twin, 1<<30)
		same(t, "All", fmt.Sprint(len(all), e), "34 0")
	}
}
