package merge_test

import (
	"iter"
	"slices"
	"testing"

	"espalier/api"
	"espalier/merge"
)

// The chapter's sources.
func exampleA() iter.Seq[api.Pair] { return tellsText("a1 c3 e5").each }
func exampleB() iter.Seq[api.Pair] { return tellsText("c30 d40").each }
func exampleN() iter.Seq[api.Pair] { return tellsText("c1 a2").each }

func all(s iter.Seq[api.Pair]) []pair { return slices.Collect(asTexts(s)) }

func TestExamplesOfSequences(t *testing.T) {
	a, b, n := exampleA, exampleB, exampleN
	alone := func(_ []byte, values [][]byte) ([]byte, bool) { return []byte(".."), len(values) != 1 }
	for _, x := range []struct {
		what string
		s    iter.Seq[api.Pair]
		want string
	}{
		{"Union(a, b)", merge.Union(a(), b()), "a1 c3 d40 e5"},
		{"Union(b, a)", merge.Union(b(), a()), "a1 c30 d40 e5"},
		{"Union()", merge.Union(), ""},
		{"Union(nil, b)", merge.Union(nil, b()), "c30 d40"},
		{"Both(a, b)", merge.Both(a(), b()), "c3"},
		{"Without(a, b)", merge.Without(a(), b()), "a1 e5"},
		{"Union(n, b)", merge.Union(n(), b()), "c1 d40"},
		{"Without(a, n)", merge.Without(a(), n()), "a1 e5"},
		{"Group in a row", merge.Group(inARow, a(), b(), a()), "a11 c3303 d40 e55"},
		{"Group of several", merge.Group(alone, a(), b()), "c.."},
	} {
		sameList(t, x.what, all(x.s), of(x.want))
	}
	sameList(t, "Join(a, b)", slices.Collect(joined(merge.Join(a(), b()))), []pair{{"c", "3|30"}})
}

func TestExamplesOfSide(t *testing.T) {
	a, b, n := exampleA, exampleB, exampleN
	for _, x := range []struct {
		what    string
		most    int
		sources []iter.Seq[api.Pair]
		want    string
		errno   api.Errno
	}{
		{"Side(2, a, b)", 2, []iter.Seq[api.Pair]{a(), b()}, "a1 c3 d40", api.OK},
		{"Side(0, a)", 0, []iter.Seq[api.Pair]{a()}, "", api.OK},
		{"Side(-1, a)", -1, []iter.Seq[api.Pair]{a()}, "", api.ErrArg},
		{"Side(2, n)", 2, []iter.Seq[api.Pair]{n()}, "", api.ErrSource},
		{"Side(1, n)", 1, []iter.Seq[api.Pair]{n()}, "c1", api.OK},
		{"Side(1, nil)", 1, []iter.Seq[api.Pair]{nil}, "", api.ErrSource},
	} {
		l, e := merge.Side(x.most, x.sources...)
		same(t, x.what, e, x.errno)
		sameList(t, x.what, asPairs(l), of(x.want))
	}
}

func TestExampleOfARangeThatIsLeft(t *testing.T) {
	a, b := tellsText("a1 c3 e5"), tellsText("c30 d40")
	for p := range merge.Union(a.each, b.each) {
		same(t, "the first pair", asPair(p), pair{"a", "1"})
		break
	}
	if a.told > 2 || b.told > 1 {
		t.Errorf("of a %d pairs were taken, of b %d", a.told, b.told)
	}
}

func TestExamplesOfRising(t *testing.T) {
	a := bytesOf(of("a1 c3 e5"))
	same(t, "a, then a pair of the key e", merge.Rising(append(a, api.Pair{Key: []byte("e")})), false)
	same(t, "nothing", merge.Rising(nil), true)
	same(t, "an empty list", merge.Rising([]api.Pair{}), true)
}
