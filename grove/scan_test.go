package grove_test

import (
	"fmt"
	"strings"
	"testing"

	"espalier/api"
	"espalier/grove"
)

// told is all that a range tells: the keys, and errors by their numbers.
func told(g *grove.Grove, name, lo, hi string, reverse bool) string {
	var l []string
	for p, e := range g.Scan(name, []byte(lo), []byte(hi), reverse) {
		if e != api.OK {
			l = append(l, fmt.Sprint(asPair(p) == pair{}, e))
			continue
		}
		l = append(l, string(p.Key))
	}
	return strings.Join(l, " ")
}

// P15.8: any bounds, empty, equal and crossed ones among them, either way.
func TestBounds(t *testing.T) {
	t.Parallel()
	for _, engine := range engines() {
		for _, length := range []int{3, 150} {
			g := planted(t, fmt.Sprint("bounds, values of ", length, ", engine ", engine), newShelf(engine, 512))
			g.make("a", "none")
			g.load("a", numbered(60, length)...)
			g.put("a", "\x00", "first")
			g.put("a", "\xff\xff", long(length, 'z'))
			g.put("a", "k0003", "a beginning")
			l := g.want.rising("a")
			bounds := append(nearKeys(l[:4]), nearKeys(l[30:33])...)
			bounds = append(bounds, l[len(l)-1].key, l[len(l)-1].key+"\x00", "k", "l")
			for _, lo := range bounds {
				for _, hi := range bounds {
					for _, reverse := range []bool{false, true} {
						what := fmt.Sprintf("%s: Scan(%.20q, %.20q, %v)", g.what, lo, hi, reverse)
						got, e := scanned(g.g, "a", lo, hi, reverse, 1000)
						same(t, what, e, api.OK)
						samePairs(t, what, got, within(l, lo, hi, reverse))
						same(t, what+": of an empty tree", told(g.g, "none", lo, hi, reverse), "")
						same(t, what+": of no tree", told(g.g, "no", lo, hi, reverse), "true 150")
					}
				}
				if t.Failed() {
					t.FailNow()
				}
			}
		}
	}
}

// P15.8: nil is the same as no byte.
func TestBoundsThatAreNil(t *testing.T) {
	for _, engine := range engines() {
		g := planted(t, "nil", newShelf(engine, 512))
		g.make("a")
		g.load("a", numbered(9, 9)...)
		for _, reverse := range []bool{false, true} {
			n := 0
			for _, e := range g.g.Scan("a", nil, nil, reverse) {
				same(t, "Scan", e, api.OK)
				n++
			}
			same(t, "pairs", n, 9)
		}
	}
}

// P15.8, R7: a range may be left at each pair; then nothing more is read, and nothing told.
func TestRangesThatAreLeft(t *testing.T) {
	for _, engine := range engines() {
		g := planted(t, "left", newShelf(engine, 512))
		g.make("a")
		g.load("a", numbered(40, 150)...)
		l := g.want.rising("a")
		for _, reverse := range []bool{false, true} {
			want := within(l, "", "", reverse)
			reads := -1
			for most := 1; most <= len(l); most++ {
				s := g.room.settled()
				root, n := g.g.Root()
				var got []pair
				for p, e := range grove.Open(s, root, n).Scan("a", nil, nil, reverse) {
					same(t, "Scan", e, api.OK)
					got = append(got, asPair(p))
					if len(got) == most {
						break
					}
				}
				samePairs(t, fmt.Sprint("left behind ", most), got, want[:most])
				same(t, "more pages are read the later it is left", len(s.acts) > reads, true)
				reads = len(s.acts)
				s.justLooked(t, "a range that is left", 0)
			}
		}
	}
}

// P15.8, R7: a range gone through again, and within itself; two at a time.
func TestRangesAgain(t *testing.T) {
	for _, engine := range engines() {
		g := planted(t, "again", newShelf(engine, 512))
		g.make("a", "b")
		g.load("a", numbered(12, 120)...)
		g.load("b", row("x", "1", "y", "2")...)
		l := g.want.rising("a")
		for _, reverse := range []bool{false, true} {
			want := within(l, "k00002", "k00010", reverse)
			all := g.g.Scan("a", []byte("k00002"), []byte("k00010"), reverse)
			other := g.g.Scan("b", nil, nil, !reverse)
			for range 3 {
				var got []pair
				for p := range all {
					got = append(got, asPair(p))
					var inner, beside []pair
					for q := range all {
						inner = append(inner, asPair(q))
						if len(inner) == len(got) {
							break
						}
					}
					for q := range other {
						beside = append(beside, asPair(q))
					}
					samePairs(t, "within itself", inner, want[:len(got)])
					samePairs(t, "beside it", beside, within(g.want.rising("b"), "", "", !reverse))
				}
				samePairs(t, "again", got, want)
			}
		}
	}
}

// P15.8, R7: a range tells what there is when it begins, whatever there was when Scan was called.
func TestRangesBehindChanges(t *testing.T) {
	for _, engine := range engines() {
		g := grove.Open(newShelf(engine, 512), 0, 0)
		all := g.Scan("a", []byte("b"), nil, false)
		tellsAll := func() string {
			s := ""
			for p, e := range all {
				s += fmt.Sprintf("%s=%.3s/%d ", p.Key, p.Value, e)
			}
			return s
		}
		same(t, "no tree", tellsAll(), "=/150 ")
		g.Make("a")
		same(t, "an empty tree", tellsAll(), "")
		g.Put("a", []byte("a"), []byte("1"))
		g.Put("a", []byte("c"), []byte(strings.Repeat("2", 200)))
		same(t, "pairs", tellsAll(), "c=222/0 ")
		g.Load("a", tells(row("b", "3", "d", "4")...).all())
		same(t, "others", tellsAll(), "b=3/0 d=4/0 ")
		g.Delete("a", []byte("b"))
		same(t, "fewer", tellsAll(), "d=4/0 ")
		g.Drop("a")
		same(t, "no tree any more", tellsAll(), "=/150 ")
	}
}

// P15.8: lo and hi count as they are at the call, wherever they are written over.
func TestBoundsWrittenOver(t *testing.T) {
	for _, engine := range engines() {
		g := planted(t, "written over", newShelf(engine, 512))
		g.make("a")
		g.load("a", numbered(30, 9)...)
		for _, x := range [][2]string{{"k00003", "k00020"}, {"", "k00020"}, {"k00003", ""}, {"k00020", "k00003"}} {
			for _, reverse := range []bool{false, true} {
				want := within(g.want.rising("a"), x[0], x[1], reverse)
				for _, with := range []byte{0, 'k', 0xff} {
					lo, hi := []byte(x[0]), []byte(x[1])
					all := g.g.Scan("a", lo, hi, reverse)
					for range 2 {
						scribble(lo, with)
						scribble(hi, with)
						var got []pair
						for p := range all {
							scribble(lo, with+1)
							scribble(hi, with+1)
							got = append(got, asPair(p))
						}
						samePairs(t, fmt.Sprintf("%q, %q, %v", x[0], x[1], reverse), got, want)
					}
				}
			}
		}
	}
}

// P15.8: an error of the room at each of its reads: what was told ahead of it stays told, then a zero pair with it, and no more.
func TestAnErrorOfTheRoomInARange(t *testing.T) {
	for _, engine := range engines() {
		g := planted(t, "an error", newShelf(engine, 512))
		g.make("a", "b")
		g.load("a", numbered(25, 160)...)
		for _, reverse := range []bool{false, true} {
			want := within(g.want.rising("a"), "k00002", "k00020", reverse)
			root, n := g.g.Root()
			for fail := 0; ; fail++ {
				s := g.room.settled()
				s.fail = fail
				var got []pair
				errs := 0
				for p, e := range grove.Open(s, root, n).Scan("a", []byte("k00002"), []byte("k00020"), reverse) {
					if e == api.OK {
						same(t, "behind the error nothing is told", errs, 0)
						got = append(got, asPair(p))
						continue
					}
					errs++
					same(t, "the error", e, ofTheRoom)
					same(t, "beside it", asPair(p), pair{})
				}
				samePairs(t, fmt.Sprint("ahead of read ", fail), got, want[:len(got)])
				if fail >= len(s.acts) {
					same(t, "no error", errs, 0)
					same(t, "all pairs", len(got), len(want))
					break
				}
				same(t, "an error is told once", errs, 1)
				same(t, "behind the error nothing is read", len(s.acts), fail+1)
			}
		}
	}
}

// P15.8: a range that is left ahead of the pair that cannot be read is told no error.
func TestLeftAheadOfAnError(t *testing.T) {
	for _, engine := range engines() {
		g := planted(t, "left ahead", newShelf(engine, 512))
		g.make("a")
		g.put("a", "k", "v")
		g.put("a", "l", long(300, 'l'))
		_, chain := (&surveyor{s: g.room}).value(g.is.trees["a"].cells[1])
		delete(g.room.held, chain[0])
		n := 0
		for p, e := range g.g.Scan("a", nil, nil, false) {
			same(t, "the first one", e, api.OK)
			same(t, "the first one", asPair(p), pair{"k", "v"})
			n++
			break
		}
		same(t, "told", n, 1)
		same(t, "gone on", told(g.g, "a", "", "", false), "k true 30")
		same(t, "the other way", told(g.g, "a", "", "", true), "true 30")
		_, is, e := g.g.Get("a", []byte("l"))
		same(t, "Get", e, api.ErrPage)
		same(t, "Get", is, false)
		p, is, e := g.g.At("a", 1)
		same(t, "At", e, api.ErrPage)
		same(t, "At", is, false)
		same(t, "At", asPair(p), pair{})
	}
}
