package diff_test

import (
	"fmt"
	"strings"
	"testing"

	"espalier/api"
	"espalier/diff"
	"espalier/store"
)

// brief is a change as the chapter's table writes it.
func brief(c api.Change) string {
	side := func(is bool, b []byte) string {
		switch {
		case !is:
			return "-"
		case len(c.Key) == 0:
			return "there"
		}
		return string(b)
	}
	return fmt.Sprint(c.Tree, "/", string(c.Key), ": ", side(c.Was, c.Old), " to ", side(c.Is, c.New))
}

func briefs(l []api.Change) string {
	var s []string
	for _, c := range l {
		s = append(s, brief(c))
	}
	return strings.Join(s, "; ")
}

func listed(a, b *store.View) string {
	l, n, e := diff.List(a, b)
	return fmt.Sprint(briefs(l), ", ", n, " pages, ", e)
}

// The chapter's table, row by row.
func TestExamples(t *testing.T) {
	for _, engine := range engines() {
		r := newRig(t, engine, 512, 400)
		o := r.began().v
		v := r.make("a").put("a", "k", "1").commit().v
		w := r.put("a", "m", "2").put("a", "k", "3").make("b").commit().v
		other := newRig(t, engine, 512, 400).began().v
		same(t, "List(o, v)", listed(o, v), "a/: - to there; a/k: - to 1, 2 pages, 0")
		same(t, "List(v, w)", listed(v, w), "a/k: 1 to 3; a/m: - to 2; b/: - to there, 4 pages, 0")
		same(t, "List(w, v)", listed(w, v), "b/: there to -; a/k: 3 to 1; a/m: 2 to -, 4 pages, 0")
		same(t, "List(w, w)", listed(w, w), ", 0 pages, 0")
		same(t, "List(v, nil)", listed(v, nil), fmt.Sprint(", 0 pages, ", api.ErrArg))
		same(t, "of another store", listed(v, other), fmt.Sprint(", 0 pages, ", api.ErrOther))
		l, _, _ := diff.List(o, v)
		same(t, "Turn", briefs(diff.Turn(l)), "a/k: 1 to -; a/: there to -")
		l, _, _ = diff.List(v, w)
		v.Close()
		same(t, "List(v, w), v closed", listed(v, w), fmt.Sprint(", 0 pages, ", api.ErrView))
		same(t, "List(w, v), v closed", listed(w, v), fmt.Sprint(", 0 pages, ", api.ErrView))
		applied := func(what string, s *store.Store, want int, why api.Errno, l ...api.Change) {
			t.Helper()
			n, e := diff.Apply(s, l)
			same(t, what, fmt.Sprint(n, " ", e), fmt.Sprint(want, " ", why))
		}
		must(t, "Rollback", r.s.Rollback())
		applied("Apply(nil, none)", nil, 0, api.ErrArg)
		applied("no transaction", r.s, 0, api.ErrNoTxn)
		must(t, "Begin", r.s.Begin())
		applied("List(v, w)", r.s, 0, api.ErrOther, l...)
		applied("a/m is there", r.s, 2, api.ErrOther, ofPair("a", "k", "3", "4"), ofPair("a", "x", none, "5"), ofPair("a", "m", none, "6"))
		r.working["a"]["k"], r.working["a"]["x"] = "4", "5"
		r.stands("k is 4, x is 5")
		applied("c is no tree", r.s, 1, api.ErrNoTree, ofTree("b", true, false), ofPair("c", "k", none, "1"))
		applied("a has pairs", r.s, 0, api.ErrOther, ofTree("a", true, false))
		applied("no change", r.s, 0, api.ErrArg, ofPair("a", "k", none, none))
		delete(r.working, "b")
		r.stands("at last")
	}
}
