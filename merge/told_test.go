package merge_test

import (
	"iter"
	"slices"
	"strings"
	"testing"

	"espalier/api"
	"espalier/merge"
)

// tables are sources by their texts, for all of the five that take as many.
func tables() [][]*teller {
	long := strings.Repeat("k", 300)
	none := func() *teller { return tells() }
	return [][]*teller{
		{},
		{nil},
		{none()},
		{tellsText("a1 b2 c3")},
		{tells(pair{"", ""})},
		{tells(pair{"", ""}, pair{"\x00", "1"}, pair{"\x00\x00", ""}, pair{"\xff", "2"})},
		{nil, nil},
		{none(), none()},
		{nil, tellsText("a1 b2")},
		{tellsText("a1 b2"), nil},
		{none(), tellsText("a1 b2")},
		{tellsText("a1 b2"), none()},
		{tellsText("a1 b2 c3"), tellsText("a4 b5 c6")},
		{tellsText("a1 c2 e3"), tellsText("b4 d5 f6")},
		{tellsText("d1 e2 f3"), tellsText("a4 b5 c6")},
		{tellsText("c2"), tellsText("a1 b2 c3 d4 e5")},
		{tellsText("a1 b2 c3 d4 e5"), tellsText("c")},
		{tellsText("a1 e2"), tellsText("a3 e4 z5")},
		// The empty key stands ahead of all.
		{tells(pair{"", "1"}, pair{"a", "2"}), tells(pair{"", ""})},
		{tells(pair{"", ""}), tells(pair{"a", "2"})},
		// A beginning stands ahead of what goes on.
		{tells(pair{"a", "1"}, pair{"ab", "2"}, pair{"abc", "3"}, pair{"b", "4"}), tells(pair{"ab", "5"}, pair{"ab\x00", "6"}, pair{"abd", "7"})},
		{tells(pair{long, "1"}, pair{long + "\x00", "2"}), tells(pair{long[1:], "3"}, pair{long, "4"}, pair{long + "\x00\x00", "5"})},
		// By bytes, not by their signs.
		{tells(pair{"\x7f", "1"}, pair{"\x80", "2"}, pair{"\xff", "3"}), tells(pair{"\x80", "4"}, pair{"\xff\xff", "5"})},
		// Two equal keys: at the first step, later, at the last one.
		{tellsText("a1 a2 b3"), tellsText("a4 b5")},
		{tellsText("a1 b2 b3 c4 d5"), tellsText("b6 c7 d8")},
		{tellsText("a1 b2 c3 c4"), tellsText("c5 d6")},
		{tells(pair{"", "1"}, pair{"", "2"}, pair{"a", "3"}), tellsText("a4")},
		{tellsText("a1 b2 c3"), tellsText("a4 a5 b6 c7")},
		// A key that falls: at the first step, later, at the last one.
		{tellsText("c1 a2 d3"), tellsText("a4 c5 d6")},
		{tellsText("a1 c2 b3 d4"), tellsText("b5 c6 d7")},
		{tellsText("a1 b2 c3 a4"), tellsText("a5 c6")},
		{tells(pair{"a", "1"}, pair{"", "2"}, pair{"b", "3"}), tells(pair{"", "4"}, pair{"b", "5"})},
		{tells(pair{"ab", "1"}, pair{"a", "2"}, pair{"b", "3"}), tells(pair{"a", "4"}, pair{"b", "5"})},
		{tellsText("a1 b2 c3"), tellsText("b4 a5 c6")},
		// Three, and more.
		{tellsText("b1 d2"), tellsText("a3 b4 c5"), tellsText("b6 c7 d8 e9")},
		{nil, tellsText("b1 d2"), none(), tellsText("a3 b4 b5 c6"), nil, tellsText("b7 a8 d9")},
		{tellsText("a1"), tellsText("a2"), tellsText("a3"), tellsText("a4"), tellsText("a5"), tellsText("a6")},
		{tellsText("f1"), tellsText("e2"), tellsText("d3"), tellsText("c4"), tellsText("b5"), tellsText("a6")},
	}
}

// P18.1, and when a source has ended.
func TestWhatIsTold(t *testing.T) {
	for _, sources := range tables() {
		for _, k := range kinds() {
			if k.takes(sources) {
				sameList(t, k.of(sources), slices.Collect(k.ask(sequences(sources))), k.want(sources))
			}
		}
	}
}

// P18.1 of drawn sources, and that they are told once more; P18.2: none is begun twice, all are over.
func TestWhatIsToldOfDrawnSources(t *testing.T) {
	c := chance(18)
	for range 3000 {
		sources := drawnSources(c, c.Intn(6), 12)
		if c.Intn(2) == 0 {
			sources = drawnSources(c, 2, 12)
		}
		for _, k := range kinds() {
			if !k.takes(sources) {
				continue
			}
			s, want := k.ask(sequences(sources)), k.want(sources)
			for times := 1; times < 3; times++ {
				reset(sources)
				sameList(t, k.of(sources), slices.Collect(s), want)
				eachWasBegun(t, k.of(sources), sources, 1)
			}
		}
		if t.Failed() {
			return
		}
	}
}

// Many sources are no other than few.
func TestManySources(t *testing.T) {
	c := chance(1)
	sources := drawnSources(c, 700, 6)
	for _, k := range kinds() {
		if !k.two {
			sameList(t, k.name, slices.Collect(k.ask(sequences(sources))), k.want(sources))
		}
	}
}

// P18.2: a source that is handed in twice is read twice, each for itself.
func TestASourceThatIsHandedInTwice(t *testing.T) {
	for _, x := range []*teller{tellsText("a1 b2 c3"), tellsText("a1 b2 a3"), tells(), tells(pair{"", ""})} {
		for _, k := range kinds() {
			sources := []*teller{x, x}
			reset(sources)
			sameList(t, k.of(sources), slices.Collect(k.ask(sequences(sources))), k.want(sources))
			same(t, k.of(sources)+": begun", x.begun, 2)
			same(t, k.of(sources)+": over", x.over, 2)
		}
		three := []*teller{x, tellsText("b7"), x, x}
		sameList(t, "Group", all(merge.Group(inARow, sequences(three)...)), kinds()[4].want(three))
	}
}

// P18.6: what any of them tells may be a source again.
func TestWhatIsToldIsASource(t *testing.T) {
	// Lists, for two goroutines read them at one time.
	a, b, c := slices.Values(bytesOf(of("a1 b2 c3 d4"))), slices.Values(bytesOf(of("b5 d6 e7"))), slices.Values(bytesOf(of("a8 e9 f0 e1")))
	s := merge.Union(merge.Without(a, b), merge.Both(c, merge.Union(b, a)), merge.Group(inARow, c, c))
	sameList(t, "once", all(s), of("a1 c3 e9 f00"))
	sameList(t, "again", all(s), of("a1 c3 e9 f00"))
	l, e := merge.Side(3, s, merge.Both(a, s))
	same(t, "Side", e, api.OK)
	sameList(t, "Side", asPairs(l), of("a1 c3 e9"))
}

// P18.6 of drawn sources.
func TestWhatFollows(t *testing.T) {
	c := chance(6)
	first := func(_ []byte, values [][]byte) ([]byte, bool) { return values[0], true }
	for range 2000 {
		sources := drawnSources(c, 2, 12)
		l := sequences(sources)
		a, b := l[0], l[1]
		what := described(sources)
		both, without, union := all(merge.Both(a, b)), all(merge.Without(a, b)), all(merge.Union(a, b))

		parts := append(slices.Clone(both), without...)
		slices.SortFunc(parts, func(p, q pair) int { return strings.Compare(p.key, q.key) })
		sameList(t, "Both and Without of "+what, parts, taken(sources[0]))

		var left, right []pair
		for p, q := range merge.Join(a, b) {
			left, right = append(left, asPair(p)), append(right, asPair(q))
		}
		sameList(t, "the left of Join of "+what, left, both)
		sameList(t, "the right of Join of "+what, right, all(merge.Both(b, a)))

		sameList(t, "Group by the first value of "+what, all(merge.Group(first, a, b)), union)
		for _, p := range union {
			_, here := has(sources[0], p.key)
			_, there := has(sources[1], p.key)
			same(t, "a key of Union of "+what, here || there, true)
		}
		for _, p := range append(slices.Clone(taken(sources[0])), taken(sources[1])...) {
			same(t, "a key of a source of "+what, slices.ContainsFunc(union, func(q pair) bool { return q.key == p.key }), true)
		}
		for _, told := range [][]pair{both, without, union, left, right} {
			same(t, "what rises of "+what, merge.Rising(bytesOf(told)), true)
		}
		if t.Failed() {
			return
		}
	}
}

// R2: the list of sources is the caller's.
func TestTheListOfSourcesMayChange(t *testing.T) {
	l := make([]iter.Seq[api.Pair], 2, 4)
	l[0], l[1] = tellsText("a1 b2").each, tellsText("b3 c4").each
	spare := l[:4]
	spare[2] = tellsText("z9").each
	union, group := merge.Union(l...), merge.Group(inARow, l...)
	side, e := merge.Side(9, l...)
	same(t, "Side", e, api.OK)
	sameList(t, "Side", asPairs(side), of("a1 b2 c4"))
	sameList(t, "what stands in the list", all(l[0]), of("a1 b2"))
	sameList(t, "what stands in the list", all(l[1]), of("b3 c4"))
	sameList(t, "what stands behind the list", all(spare[2]), of("z9"))
	same(t, "what stands at the end of the spare room", spare[3] == nil, true)
	l[0], l[1] = nil, tellsText("x0").each
	sameList(t, "Union", all(union), of("a1 b2 c4"))
	sameList(t, "Group", all(group), of("a1 b23 c4"))
}
