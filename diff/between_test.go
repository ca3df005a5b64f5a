package diff_test

import (
	"fmt"
	"testing"

	"espalier/api"
	"espalier/diff"
	"espalier/store"
)

// P22.1: the errors by which it is refused, and which of several comes first.
func TestRefusals(t *testing.T) {
	for _, engine := range engines() {
		r, foreign := newRig(t, engine, 512, 200), newRig(t, engine, 512, 200)
		a := r.make("a").put("a", "k", "1").commit()
		b := r.put("a", "k", "2").commit()
		x := foreign.began()
		refused(t, "nil, nil", nil, nil, api.ErrArg)
		refused(t, "nil first", nil, a.v, api.ErrArg)
		refused(t, "nil second", a.v, nil, api.ErrArg)
		refused(t, "of another store", a.v, x.v, api.ErrOther)
		refused(t, "of another store, back", x.v, a.v, api.ErrOther)
		b.v.Close()
		refused(t, "one is closed", a.v, b.v, api.ErrView)
		refused(t, "one is closed, back", b.v, a.v, api.ErrView)
		refused(t, "a closed one twice", b.v, b.v, api.ErrView)
		refused(t, "nil, and a closed one", nil, b.v, api.ErrArg)
		refused(t, "of another store, and closed", b.v, x.v, api.ErrOther)
		refused(t, "of another store, and closed, back", x.v, b.v, api.ErrOther)
		r.p.Crash(api.Fall{Torn: -1})
		refused(t, "down", a.v, a.v, api.ErrDown)
		refused(t, "down, ahead of the other one's error", a.v, b.v, api.ErrDown)
		refused(t, "closed, ahead of the other one's error", b.v, a.v, api.ErrView)
		refused(t, "nil, of a device that is down", a.v, nil, api.ErrArg)
		refused(t, "of another store, of a device that is down", a.v, x.v, api.ErrOther)
		r.p.Start()
		refused(t, "the store has found it down", a.v, a.v, api.ErrDown)
		must(t, "Close", r.s.Close())
		refused(t, "a closed store has closed its looks", a.v, a.v, api.ErrView)
		refused(t, "a closed store, and another one", a.v, x.v, api.ErrOther)
	}
}

// P22.1: first the trees that are there no more, then all others, each by rising names; of each what differs by rising keys.
func TestOrder(t *testing.T) {
	for _, engine := range engines() {
		r := newRig(t, engine, 512, 400)
		o := r.began()
		a := r.make("a", "c", "e", "g", "i").put("a", "x", "1").put("a", "y", "2").put("c", "x", "3").
			put("g", "x", "4").put("g", "y", "5").put("i", "x", "6").commit()
		r.drop("a").drop("e").drop("i").make("b", "d", "z")
		b := r.put("b", "2", "n").put("b", "1", "m").put("c", "a", "0").delete("c", "x").put("g", "y", "").commit()
		got, e := through(t, "from a to b", a.v, b.v)
		same(t, "the error", e, api.OK)
		sameList(t, "from a to b", asTexts(got), asTexts([]api.Change{
			ofPair("a", "x", "1", none), ofPair("a", "y", "2", none), ofTree("a", true, false),
			ofTree("e", true, false),
			ofPair("i", "x", "6", none), ofTree("i", true, false),
			ofTree("b", false, true), ofPair("b", "1", none, "m"), ofPair("b", "2", none, "n"),
			ofPair("c", "a", none, "0"), ofPair("c", "x", "3", none),
			ofTree("d", false, true),
			ofPair("g", "y", "5", ""),
			ofTree("z", false, true),
		}))
		for _, p := range []point{o, a, b} {
			for _, q := range []point{o, a, b} {
				bothWays(t, "of three looks", p, q)
			}
		}
	}
}

// P22.1: what differs is of the states alone: a tree that was dropped and made anew, a value that was laid once more, long or short, keys that came and went.
func TestStatesAlone(t *testing.T) {
	for _, engine := range engines() {
		r := newRig(t, engine, 512, 600)
		a := r.make("a", "b").load("a", numbered(60, 40)).put("a", "long", long(3000, 'l')).put("b", "k", long(97, 'k')).commit()
		was := a.has.copied()
		r.drop("a").drop("b").make("b", "a").load("a", was["a"]).put("b", "k", was["b"]["k"])
		b := r.commit()
		same(t, "nothing differs", len(tells(t, "all made anew", a, b)), 0)
		same(t, "but all pages", a.apart(b), len(a.used)+len(b.used))
		c := r.put("b", "k", was["b"]["k"]).put("a", "k00001", was["a"]["k00001"]).put("a", "new", "1").delete("a", "new").commit()
		same(t, "nothing differs", len(tells(t, "laid once more", b, c)), 0)
		d := r.put("b", "k", long(97, 'x')).put("a", "k00001", long(500, 'x')).put("a", "long", "short").put("a", "k00002", "").commit()
		same(t, "four differ", len(tells(t, "other values", c, d)), 4)
		bothWays(t, "other values", a, d)
		e := r.put("a", "k00001", long(500, 'y')).put("b", "k", long(98, 'x')).commit()
		same(t, "two differ", len(tells(t, "long values of one length, and longer by one", d, e)), 2)
		bothWays(t, "from the first to the last", a, e)
	}
}

// P22.1: a range may be left at each place, and nothing more is told.
func TestLeftEarly(t *testing.T) {
	for _, engine := range engines() {
		r := newRig(t, engine, 512, 600)
		a := r.make("a", "c", "d").load("a", numbered(40, 30)).put("c", "k", "1").put("c", "l", long(700, 'l')).commit()
		b := r.drop("c").make("b").load("a", numbered(50, 31)).load("b", numbered(20, 60)).put("d", "x", "1").commit()
		want := asTexts(differs(a.has, b.has))
		between := diff.Between(a.v, b.v)
		for most := 1; most <= len(want)+1; most++ {
			var got []string
			for c, e := range between {
				same(t, "the error", e, api.OK)
				if got = append(got, asText(c)); len(got) == most {
					break
				}
			}
			sameList(t, fmt.Sprint("the first ", most), got, want[:min(most, len(want))])
		}
		left := 0
		for range diff.Between(nil, nil) {
			left++
			break
		}
		same(t, "one that is refused is left", left, 1)
	}
}

// R7: a range may be begun anew, also within itself, and tells all each time; what is refused is told by each range as it is then.
func TestRangedOverAgain(t *testing.T) {
	for _, engine := range engines() {
		r := newRig(t, engine, 512, 600)
		a := r.make("a").load("a", numbered(30, 50)).commit()
		b := r.load("a", numbered(35, 51)).make("b").commit()
		want := asTexts(differs(a.has, b.has))
		between := diff.Between(a.v, b.v)
		for range 2 {
			var outer []string
			for c := range between {
				if len(outer)%10 == 0 {
					var inner []string
					for c := range between {
						inner = append(inner, asText(c))
					}
					sameList(t, "within its own range", inner, want)
				}
				outer = append(outer, asText(c))
			}
			sameList(t, "around that", outer, want)
		}
		b.v.Close()
		told := 0
		for _, e := range between {
			told++
			same(t, "once one is closed", e, api.ErrView)
		}
		same(t, "how much is told", told, 1)
	}
}

// P22.1: the store may go on while a range goes on; what is not committed, or was committed later, is nowhere seen.
func TestStoreGoesOn(t *testing.T) {
	for _, engine := range engines() {
		r := newRig(t, engine, 512, 3000)
		a := r.make("a", "b", "c").load("a", numbered(100, 60)).load("b", numbered(30, 200)).load("c", numbered(50, 10)).commit()
		b := r.load("a", numbered(110, 61)).drop("b").make("d").load("d", numbered(40, 120)).commit()
		r.load("a", numbered(10, 9)).drop("c")
		bothWays(t, "beside an open transaction", a, b)
		want := asTexts(differs(a.has, b.has))
		var got []string
		step := 0
		for c, e := range diff.Between(a.v, b.v) {
			must(t, "on the way", e)
			got = append(got, asText(c))
			if len(got)%5 != 0 {
				continue
			}
			switch step++; step % 5 {
			case 1:
				r.load("a", numbered(60+step, 70)).put("d", fmt.Sprint(step), long(600, byte(step)))
			case 2:
				r.commit().v.Close()
			case 3:
				r.drop("a").make("a").put("d", "k00003", "")
			case 4:
				r.commit().v.Close()
				must(t, "Rollback", r.s.Rollback())
			case 0:
				must(t, "Begin", r.s.Begin())
			}
		}
		sameList(t, "while the store went on", got, want)
		same(t, fmt.Sprint("steps ", step), step > 20, true)
		bothWays(t, "behind that", a, b)
	}
}

// P22.1: a device that falls on the way: an error, beside a zero change, and no more.
func TestDeviceFallsOnTheWay(t *testing.T) {
	for _, engine := range engines() {
		for _, at := range []int{1, 7, 40, 90} {
			r := newRig(t, engine, 512, 3000)
			a := r.make("a", "b").load("a", numbered(60, 60)).commit()
			b := r.load("b", numbered(60, 200)).drop("a").commit()
			want := asTexts(differs(a.has, b.has))
			var got []string
			var errors []api.Errno
			for c, e := range diff.Between(a.v, b.v) {
				if e != api.OK {
					errors = append(errors, e)
					same(t, "beside it", asText(c), asText(api.Change{}))
					continue
				}
				if got = append(got, asText(c)); len(got) == at {
					r.p.Crash(api.Fall{Torn: -1})
				}
			}
			sameList(t, "the error, once", errors, []api.Errno{api.ErrDown})
			same(t, "as many as were told till then, or what was read already", len(got) >= at && len(got) < len(want), true)
			sameList(t, "what was told till then", got, want[:len(got)])
			refused(t, "behind that", a.v, b.v, api.ErrDown)
		}
	}
}

// R1: a look that is closed while a range goes on (which is not meant) ends it, one way or the other.
func TestClosedOnTheWay(t *testing.T) {
	for _, engine := range engines() {
		for _, end := range []func(r *rig, a, b *store.View){
			func(r *rig, a, b *store.View) { a.Close() },
			func(r *rig, a, b *store.View) { b.Close() },
			func(r *rig, a, b *store.View) { r.s.Close() },
		} {
			r := newRig(t, engine, 512, 3000)
			a := r.make("a", "b", "c").load("a", numbered(60, 60)).load("c", numbered(9, 9)).commit()
			b := r.load("b", numbered(60, 200)).drop("a").put("c", "1", "2").commit()
			n, errors := 0, 0
			for _, e := range diff.Between(a.v, b.v) {
				if n++; n == 3 {
					end(r, a.v, b.v)
				}
				if e != api.OK {
					errors++
				}
			}
			same(t, fmt.Sprint(n, " told, errors ", errors), n < 200 && errors < 2, true)
		}
	}
}
