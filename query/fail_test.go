package query_test

import (
	"fmt"
	"testing"

	"espalier/api"
	"espalier/grove"
	"espalier/index"
)

// wide is a table of many records in many pages, over a room that may refuse.
func wide(t *testing.T, engine int) (*room, *grove.Grove, *index.Table) {
	t.Helper()
	r := newRoom(engine)
	g := grove.Open(r, 0, 0)
	var l []api.Record
	for i := range int64(200) {
		l = append(l, rec(num(i), "a", num(i%7), "b", num(i*37%101), "c", word(fmt.Sprintf("%060d", i))))
	}
	return r, g, makes(t, g, []api.Index{by("ab", "a", "b"), by("b", "b")}, l...)
}

func wideQuestions() []string {
	return []string{"", "limit 0", "limit 1", "limit 50", "where a = 3", "where a = 3 order by b", "where a = 3 order by b limit 0", "where a = 3 order by b limit 1", "where a = 3 order by b desc limit 20", "where a = 3 order by b limit 1000", "order by c desc", "order by c limit 2", "order by c limit 0",
		"where b > 20 and b < 40", "where key >= 100 limit 9", "where key >= 100 and not a = 3", "where c is null", "where c is null limit 1", "where a = 9", "where a = 9 limit 1", "where a = 3 and b = 40 and key = 9"}
}

// P20.4, P20.6: an error of the room, at whichever page it stands, is the answer, and no record beside it; Run and Slow ask the room for nothing but pages to read.
func TestErrorsOfTheRoom(t *testing.T) {
	t.Parallel()
	for _, engine := range engines() {
		r, _, x := wide(t, engine)
		for _, text := range wideQuestions() {
			q := ask(t, text)
			for name, call := range runs() {
				what := fmt.Sprintf("%s of %q, engine %d", name, text, engine)
				var want []api.Record
				count, looks := r.during(plenty, func() { want, _ = call(q, x) })
				same(t, what+" looks", looks, true)
				for most := range count + 1 {
					reads, looks := r.during(most, func() {
						l, e := call(q, x)
						if most < count {
							same(t, what+": an error", fmt.Sprint(len(l), e), fmt.Sprint(0, ofTheRoom))
						} else {
							same(t, what+": no error", e, api.OK)
							sameList(t, what, forms(l), forms(want))
						}
					})
					same(t, what+": no page is read behind the error", reads <= most+2, true)
					same(t, what+" looks", looks, true)
				}
				stop(t)
			}
		}
	}
}

// P20.6: where nothing is sorted no more is read than is asked for, but the first answer of the Scan is waited for: it may be an error.
func TestRunReadsNoFurther(t *testing.T) {
	for _, engine := range engines() {
		r, g, x := wide(t, engine)
		reads := func(text string) int {
			q := ask(t, text)
			n, _ := r.during(plenty, func() {
				_, e := q.Run(x)
				same(t, "Run of "+text, e, api.OK)
			})
			return n
		}
		for _, text := range []string{"", "where a = 3 order by b", "where a = 3 order by b desc", "where key >= 7", "where not a = 3", "where b >= 3 and a = 2 order by b"} {
			whole, last := reads(text), 0
			for _, limit := range []int{0, 1, 5, 10, 20} {
				n := reads(fmt.Sprint(text, " limit ", limit))
				same(t, fmt.Sprint("pages read for ", text, " limit ", limit), n >= last && n < whole, true)
				last = n
			}
			same(t, "pages read for no record, "+text, reads(text+" limit 0"), reads(text+" limit 1"))
		}
		lostBehind(t, g, x)
	}
}

// lostBehind holds that an entry which leads to no record is told just where the Scan comes to it.
func lostBehind(t *testing.T, g *grove.Grove, x *index.Table) {
	t.Helper()
	g.Put("i/p/ab", []byte(coded(num(3), num(1000), num(1000))), nil)
	for text, want := range map[string]api.Errno{
		"where a = 3 order by b": api.ErrIndex, "where a = 3 order by b limit 1000": api.ErrIndex, "where a = 3 order by b limit 30": api.ErrIndex, "where a = 3 order by b limit 0": api.OK, "where a = 3 order by b limit 1": api.OK, "where a = 3 order by b limit 29": api.OK,
		"where a = 3 order by b desc": api.ErrIndex, "where a = 3 order by b desc limit 1": api.ErrIndex, "where a = 3 order by b desc limit 0": api.ErrIndex, "where a = 3": api.ErrIndex, "where a = 3 limit 0": api.ErrIndex, "where a = 4": api.OK, "where a = 3 and b < 50": api.OK,
	} {
		l, e := ask(t, text).Run(x)
		same(t, "Run, where an entry has no record, of "+text, e, want)
		same(t, "records beside an error of "+text, e == api.OK || len(l) == 0, true)
		_, e = ask(t, text).Slow(x)
		same(t, "Slow, where an entry has no record, of "+text, e, api.OK)
	}
}
