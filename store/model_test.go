package store_test

import (
	"fmt"
	"math/rand"
	"strings"
	"testing"

	"espalier/api"
	"espalier/plate"
	"espalier/store"
)

// step is a call of a script.
type step struct {
	what, name, key, value string
	pairs                  []pair
}

// drawKey draws a key: most of them out of few, so that they are met again.
func drawKey(x *rand.Rand, most int) string {
	switch x.Intn(20) {
	case 0:
		return ""
	case 1:
		return strings.Repeat("x", most+1)
	case 2:
		return strings.Repeat("x", most-x.Intn(2)) // at the limit, and just below it
	case 3:
		return string([]byte{byte(x.Intn(256)), byte(x.Intn(256))})
	}
	return fmt.Sprintf("k%02d%s", x.Intn(60), strings.Repeat("y", x.Intn(3)*7))
}

func drawValue(x *rand.Rand) string {
	lengths := []int{0, 1, 9, 40, 90, 96, 97, 98, 200, 496, 497, 1000, 2500}
	if x.Intn(150) == 0 {
		lengths = []int{65536, 65537, 20000}
	}
	return long(lengths[x.Intn(len(lengths))], byte(x.Intn(256)))
}

// drawName draws a name: half of them alike, so that one tree grows.
func drawName(x *rand.Rand) string {
	if x.Intn(2) == 0 {
		return "a"
	}
	return []string{"a", "b", "c/d", "e", "f.g", "h-i_j", "Bad", "", strings.Repeat("n", 64), strings.Repeat("n", 65)}[x.Intn(10)]
}

func drawPairs(x *rand.Rand, most int) []pair {
	var l []pair
	for i := range x.Intn(40) {
		l = append(l, pair{fmt.Sprintf("k%02d%s", i*3/2, strings.Repeat("z", x.Intn(2)*9)), drawValue(x)})
	}
	if len(l) > 1 && x.Intn(6) == 0 {
		l[1+x.Intn(len(l)-1)].key = drawKey(x, most)
	}
	return l
}

// script draws calls; keys may have so many bytes.
func script(x *rand.Rand, n, most int) []step {
	l := []step{{what: "begin"}, {what: "make", name: "a"}, {what: "make", name: "b"}}
	for range n {
		s := step{name: drawName(x)}
		switch k := x.Intn(100); {
		case k < 6:
			s.what = "begin"
		case k < 9:
			s.what = "commit"
		case k < 11:
			s.what = "rollback"
		case k < 17:
			s.what = "make"
		case k < 19:
			s.what = "drop"
		case k < 68:
			s.what, s.key, s.value = "put", drawKey(x, most), drawValue(x)
		case k < 96:
			s.what, s.key = "delete", drawKey(x, most)
		default:
			s.what, s.pairs = "load", drawPairs(x, most)
		}
		l = append(l, s)
	}
	return l
}

// does does a step, and holds what is answered against the maps.
func (r *rig) does(s step) {
	r.t.Helper()
	if (r.working == nil) != (s.what == "begin") {
		r.refuses(s)
		return
	}
	switch s.what {
	case "begin":
		r.begin()
	case "commit":
		r.commit()
	case "rollback":
		r.rollback()
	case "make":
		r.make(s.name)
	case "drop":
		r.drop(s.name)
	case "put":
		r.put(s.name, s.key, s.value)
	case "delete":
		r.delete(s.name, s.key)
	case "load":
		r.load(s.name, s.pairs...)
	}
}

// refuses does a step for which a transaction is wanting, or which wants none to be open.
func (r *rig) refuses(s step) {
	r.t.Helper()
	e := api.OK
	switch s.what {
	case "begin":
		r.is("Begin within a transaction", r.s.Begin(), api.ErrBusy)
		return
	case "commit":
		_, e = r.s.Commit()
	case "rollback":
		e = r.s.Rollback()
	case "make":
		e = r.s.Make(s.name)
	case "drop":
		e = r.s.Drop(s.name)
	case "put":
		_, e = r.s.Put(s.name, []byte(s.key), []byte(s.value))
	case "delete":
		_, e = r.s.Delete(s.name, []byte(s.key))
	case "load":
		_, e = r.s.Load(s.name, raw(s.pairs...))
	}
	r.is(s.what+" without a transaction", e, api.ErrNoTxn)
}

// P0.1, P17.3 to P17.6, P17.11: whatever a script does, a store answers what sorted maps answer, in either engine, whatever the pages' size; and behind each Commit the device is whole.
func TestOneMap(t *testing.T) {
	t.Parallel()
	for _, engine := range engines() {
		for _, size := range []int{512, 1024, 4096, 65536} {
			for seed := range int64(3) {
				r := newRig(t, engine, size, max(6000000/size, 300))
				r.what += fmt.Sprint(", script ", seed)
				for i, s := range script(chance(seed), 400, 64) {
					if size != 512 && len(s.key) == 65 {
						s.key += strings.Repeat("x", size)
					}
					was := r.txn
					r.does(s)
					if r.txn > was {
						r.whole()
					}
					if i%50 == 0 {
						r.looks()
					}
					if i%130 == 0 {
						r.reopen()
					}
				}
				r.settle()
				r.looks()
			}
		}
	}
}

// reopen closes the store, with what is not committed, and opens it anew.
func (r *rig) reopen() {
	r.t.Helper()
	r.is("Close", r.s.Close(), api.OK)
	r.s, r.working = opened(r.t, r.p, r.engine), nil
	r.is("Txn of the one that is opened anew", r.s.Txn(), r.txn)
	r.looks()
}

// P0.1: on devices of any number of pages, ErrFull aside: with it nothing has changed.
func TestOneMapWhereRoomIsWanting(t *testing.T) {
	t.Parallel()
	for _, engine := range engines() {
		refusals := 0
		for pages := 4; pages < 300; pages += 1 + pages/40 {
			r := newRig(t, engine, 512, pages)
			r.tight = true
			var views []*store.View
			x := chance(int64(pages))
			for i, s := range script(x, 400, 64) {
				was, full := r.txn, r.refusals
				r.does(s)
				if r.txn > was {
					r.whole()
				}
				if r.refusals > full && i%3 == 0 {
					r.looks()
				}
				// Views keep pages, so that also Commits are refused.
				if x.Intn(20) == 0 {
					v, e := r.s.View()
					must(t, "View", e)
					views = append(views, v)
				}
				if x.Intn(15) == 0 && len(views) > 0 {
					views[0].Close()
					views = views[1:]
				}
			}
			r.looks()
			refusals += r.refusals
		}
		same(t, "refusals", refusals > 1000, true)
	}
}

// P17.9: both engines, and all sizes of pages that take the keys, answer the same script alike.
func TestAllAnswerAlike(t *testing.T) {
	t.Parallel()
	steps := script(chance(99), 1200, 64)
	var want []string
	for _, engine := range engines() {
		for _, size := range []int{512, 1024, 2048, 8192, 65536} {
			s := opened(t, plate.New(size, max(6000000/size, 300)), engine)
			got := answers(s, steps)
			if want == nil {
				want = got
			}
			for i := range want {
				if got[i] != want[i] {
					t.Fatalf("engine %d, %d bytes: step %d, %s: %.200s, want %.200s", engine, size, i, steps[i].what, got[i], want[i])
				}
			}
		}
	}
}

// answers are what a store tells, step by step, as texts. Keys that are too long for pages of 512 bytes are left out.
func answers(s *store.Store, steps []step) []string {
	var l []string
	for i, x := range steps {
		tooLong := len(x.key) > 64
		for _, p := range x.pairs {
			tooLong = tooLong || len(p.key) > 64
		}
		if tooLong {
			continue
		}
		text := answer(s, x)
		n, e := s.Rank("a", []byte(x.key))
		p, is, f := s.At("a", i%50)
		v, has, g := s.Get(x.name, []byte(x.key))
		k, h := s.Len(x.name)
		names, _ := s.Names()
		text += fmt.Sprint(" ", n, e, p, is, f, v, has, g, k, h, names, s.Txn())
		if i%40 == 0 {
			told, e := s.Scan("a", []byte(x.key), nil, 100, i%80 == 0)
			text += fmt.Sprint(told, e)
		}
		l = append(l, text)
	}
	return l
}

// answer is what a step is answered.
func answer(s *store.Store, x step) string {
	switch x.what {
	case "begin":
		return fmt.Sprint(s.Begin())
	case "commit":
		return fmt.Sprint(s.Commit())
	case "rollback":
		return fmt.Sprint(s.Rollback())
	case "make":
		return fmt.Sprint(s.Make(x.name))
	case "drop":
		return fmt.Sprint(s.Drop(x.name))
	case "put":
		return fmt.Sprint(s.Put(x.name, []byte(x.key), []byte(x.value)))
	case "delete":
		return fmt.Sprint(s.Delete(x.name, []byte(x.key)))
	}
	return fmt.Sprint(s.Load(x.name, raw(x.pairs...)))
}
