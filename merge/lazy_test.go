package merge_test

import (
	"fmt"
	"iter"
	"slices"
	"testing"

	"espalier/api"
	"espalier/merge"
)

// eachWasBegun asks that each source was begun so many times, and that all its ranges are over.
func eachWasBegun(t *testing.T, what string, sources []*teller, times int) {
	t.Helper()
	for i, s := range sources {
		if s != nil && (s.begun != times || s.over != times) {
			t.Errorf("%s: source %d was begun %d times, and is over %d times, want %d", what, i, s.begun, s.over, times)
		}
	}
}

// readAsNeeded asks that no source has told more than P18.2 grants when last was told last.
func readAsNeeded(t *testing.T, what string, sources []*teller, last string) {
	t.Helper()
	for i, s := range sources {
		if s == nil {
			continue
		}
		most := 1
		for _, p := range taken(s) {
			if p.key <= last {
				most++
			}
		}
		if s.told > most {
			t.Errorf("%s: source %d has told %d pairs behind %q, want %d at most", what, i, s.told, last, most)
		}
	}
}

// P18.2: a range that is left behind each number of pairs, and what was read then.
func leftEarly(t *testing.T, k kind, sources []*teller) {
	t.Helper()
	reset(sources)
	s := k.ask(sequences(sources))
	eachWasBegun(t, k.of(sources)+", not ranged over", sources, 0)
	want := k.want(sources)
	for n := 1; n <= len(want); n++ {
		reset(sources)
		what := fmt.Sprintf("%s, left behind %d", k.of(sources), n)
		var got []pair
		for p := range s {
			if got = append(got, p); len(got) == n {
				readAsNeeded(t, what+" (within)", sources, p.key)
				break
			}
		}
		sameList(t, what, got, want[:n])
		readAsNeeded(t, what, sources, want[n-1].key)
		eachWasBegun(t, what, sources, 1)
	}
	reset(sources)
	sameList(t, k.of(sources)+", once more", slices.Collect(s), want)
	eachWasBegun(t, k.of(sources)+", once more", sources, 1)
	for i, x := range sources {
		if x != nil && x.told > len(taken(x))+1 {
			t.Errorf("%s: source %d was read behind the pair that is not taken", k.of(sources), i)
		}
	}
}

func TestRangesThatAreLeft(t *testing.T) {
	for _, sources := range tables() {
		for _, k := range kinds() {
			if k.takes(sources) {
				leftEarly(t, k, sources)
			}
		}
	}
	c := chance(2)
	for range 600 {
		sources := drawnSources(c, 2+c.Intn(2), 10)
		for _, k := range kinds() {
			if k.takes(sources) {
				leftEarly(t, k, sources)
			}
		}
		if t.Failed() {
			return
		}
	}
}

// P18.2: while a range goes on, too, nothing is read ahead.
func TestReadingWithinARange(t *testing.T) {
	for _, sources := range tables() {
		for _, k := range kinds() {
			if !k.takes(sources) {
				continue
			}
			reset(sources)
			for p := range k.ask(sequences(sources)) {
				readAsNeeded(t, k.of(sources), sources, p.key)
				for _, s := range sources {
					if s != nil {
						same(t, k.of(sources)+": begun meanwhile", s.begun, 1)
					}
				}
			}
		}
	}
}

// P18.2: each source is begun just once, also where another one has nothing to tell; no further than is needed.
func TestSourcesBesideOneThatTellsNothing(t *testing.T) {
	for _, k := range kinds() {
		for _, none := range []*teller{nil, tells()} {
			for _, sources := range [][]*teller{{none, tellsText("a1 b2 c3")}, {tellsText("a1 b2 c3"), none}, {none, none}} {
				reset(sources)
				for range k.ask(sequences(sources)) {
				}
				if sources[0] == sources[1] {
					if none != nil {
						same(t, k.of(sources), none.begun, 2)
					}
					continue
				}
				eachWasBegun(t, k.of(sources), sources, 1)
			}
		}
	}
	for _, x := range []struct{ a, b string }{{"", "a1 b2 c3"}, {"a1 b2 c3", ""}} {
		a, b := tellsText(x.a), tellsText(x.b)
		for range merge.Both(a.each, b.each) {
		}
		for range merge.Join(a.each, b.each) {
		}
		if a.told+b.told > 2 {
			t.Errorf("Both and Join of %q and %q have read %d and %d pairs, where the first of them says it all", x.a, x.b, a.told, b.told)
		}
	}
	a, b := tells(), tellsText("a1 b2 c3")
	for range merge.Without(a.each, b.each) {
	}
	same(t, "what Without reads of b, where a has nothing", b.told, 1)
}

// P18.2: a pair that is not behind the one ahead of it ends its source: it is read no further, and its range is over soon.
func TestASourceThatDoesNotRiseIsReadNoFurther(t *testing.T) {
	for _, x := range []struct {
		texts string
		told  int
	}{{"a1 a2 b3 c4", 2}, {"c1 a2 d3 e4", 2}, {"a1 b2 c3 b4 d5 e6", 4}, {"a1 b2 c3 c4", 4}} {
		for _, k := range kinds() {
			odd, other := tellsText(x.texts), tellsText("a1 b2 c3 d4 e5")
			for range k.ask(sequences([]*teller{odd, other})) {
			}
			same(t, k.name+" of "+x.texts+": told", odd.told, x.told)
			odd, other = tellsText(x.texts), tellsText("a1 b2 c3 d4 e5 f6")
			for range k.ask(sequences([]*teller{other, odd})) {
			}
			same(t, k.name+" beside "+x.texts+": told", odd.told, x.told)
		}
	}
}

// R7, P18.2: a range within another one over the same answer.
func TestARangeWithinARange(t *testing.T) {
	for _, sources := range tables() {
		for _, k := range kinds() {
			if !k.takes(sources) {
				continue
			}
			reset(sources)
			s, want := k.ask(sequences(sources)), k.want(sources)
			var outer []pair
			ranges := 1
			for p := range s {
				outer = append(outer, p)
				sameList(t, k.of(sources)+", within", slices.Collect(s), want)
				for range s {
					break
				}
				ranges += 2
			}
			sameList(t, k.of(sources)+", about it", outer, want)
			eachWasBegun(t, k.of(sources), sources, ranges)
		}
	}
}

// R7: what a source tells when a range begins is what is told.
func TestWhatASourceTellsMayChange(t *testing.T) {
	for _, k := range kinds() {
		a, b := tellsText("a1 b2"), tellsText("b3 c4")
		sources := []*teller{a, b}
		s := k.ask(sequences(sources))
		sameList(t, k.name, slices.Collect(s), k.want(sources))
		a.pairs, b.pairs = of("b5 c6 e7"), of("a8 c9 d0")
		sameList(t, k.name+", changed", slices.Collect(s), k.want(sources))
	}
}

// A source without an end is read as far as one likes.
func TestASourceWithoutAnEnd(t *testing.T) {
	endless := func(yield func(api.Pair) bool) {
		for n := 0; yield(api.Pair{Key: fmt.Appendf(nil, "%09d", n)}); n++ {
		}
	}
	odd := func(yield func(api.Pair) bool) {
		for n := 1; yield(api.Pair{Key: fmt.Appendf(nil, "%09d", n)}); n += 2 {
		}
	}
	for _, x := range []struct {
		name string
		s    iter.Seq[api.Pair]
		last string
	}{
		{"Union", merge.Union(endless, odd), "000000999"},
		{"Both", merge.Both(endless, odd), "000001999"},
		{"Without", merge.Without(endless, odd), "000001998"},
		{"Group", merge.Group(ofSeveral, endless, odd), "000001999"},
	} {
		n, last := 0, ""
		for p := range x.s {
			if n, last = n+1, string(p.Key); n == 1000 {
				break
			}
		}
		same(t, x.name+": the last key of a thousand", last, x.last)
	}
}

// Should the loop over what is told panic, or a source, each source's own range is over all the same.
func TestRangesThatPanic(t *testing.T) {
	for _, k := range kinds() {
		a, b := tellsText("a1 b2 c3"), tellsText("b4 c5")
		caught := catch(func() {
			for p := range k.ask(sequences([]*teller{a, b})) {
				panic("at " + p.key)
			}
		})
		same(t, k.name, caught != nil, true)
		eachWasBegun(t, k.name, []*teller{a, b}, 1)

		for _, at := range []int{0, 1} {
			sources := []*teller{tellsText("a1 b2 c3"), tellsText("b4 c5")}
			l := sequences(sources)
			l[at] = func(yield func(api.Pair) bool) {
				if yield(api.Pair{Key: []byte("a")}) {
					panic("broken")
				}
			}
			caught = catch(func() {
				for range k.ask(l) {
				}
			})
			same(t, k.name+" of a broken source", caught, any("broken"))
			eachWasBegun(t, k.name+" beside a broken source", sources[1-at:2-at], 1)

			reset(sources)
			l[at] = func(yield func(api.Pair) bool) {
				if yield(api.Pair{Key: []byte("a")}) && yield(api.Pair{Key: []byte("b")}) && yield(api.Pair{Key: []byte("z")}) {
					return
				}
				panic("left")
			}
			caught = catch(func() {
				for range k.ask(l) {
					break
				}
			})
			same(t, k.name+" of a source that panics when it is left", caught, any("left"))
			eachWasBegun(t, k.name+" beside a source that panics when it is left", sources[1-at:2-at], 1)
		}
	}
}

func catch(act func()) (caught any) {
	defer func() { caught = recover() }()
	act()
	return nil
}
