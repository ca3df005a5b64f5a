package merge_test

import (
	"bytes"
	"iter"
	"slices"
	"testing"

	"espalier/api"
	"espalier/merge"
)

// scribble writes over bytes, and over the spare room behind them.
func scribble(b []byte) {
	b = b[:cap(b)]
	for i := range b {
		b[i] = '~'
	}
}

func scribblePair(p api.Pair) {
	scribble(p.Key)
	scribble(p.Value)
}

// spacious is a source whose pairs have spare room; it tells, when it is over, whether they, and the room, are as they were.
func spacious(t *testing.T, l ...pair) iter.Seq[api.Pair] {
	room := func(text string) []byte { return append(make([]byte, 0, len(text)+8), text+"spare"...)[:len(text)] }
	return func(yield func(api.Pair) bool) {
		for _, p := range l {
			key, value := room(p.key), room(p.value)
			more := yield(api.Pair{Key: key, Value: value})
			for i, b := range [][]byte{key, value} {
				want := room([]string{p.key, p.value}[i])
				if !bytes.Equal(b[:cap(b)], want[:cap(want)]) {
					t.Errorf("a source's %q is %q now", want[:cap(want)], b[:cap(b)])
				}
			}
			if !more {
				return
			}
		}
	}
}

func spaciousText(t *testing.T, texts string) iter.Seq[api.Pair] { return spacious(t, of(texts)...) }

// P18.5: what is told is the hearer's: written over, and appended to, it changes nothing that is told later, nor what the sources tell.
func TestWhatIsToldIsNew(t *testing.T) {
	a, b := spaciousText(t, "a1 b2 c3 d4"), spaciousText(t, "b5 d6 e7")
	keeps := func(_ []byte, values [][]byte) ([]byte, bool) { return values[0], true }
	for _, x := range []struct {
		name string
		s    iter.Seq[api.Pair]
		want string
	}{
		{"Union", merge.Union(a, b, a), "a1 b2 c3 d4 e7"},
		{"Both", merge.Both(a, b), "b2 d4"},
		{"Without", merge.Without(a, b), "a1 c3"},
		{"Group", merge.Group(keeps, a, b, a), "a1 b2 c3 d4 e7"},
	} {
		for range 2 {
			var got []pair
			for p := range x.s {
				got = append(got, asPair(p))
				scribblePair(p)
			}
			sameList(t, x.name, got, of(x.want))
			alone(t, x.name, slices.Collect(x.s))
		}
	}
	for range 2 {
		var got []pair
		for p, q := range merge.Join(a, b) {
			got = append(got, asPair(p), asPair(q))
			alone(t, "Join", []api.Pair{p, q})
			scribblePair(p)
			scribblePair(q)
		}
		sameList(t, "Join", got, of("b2 b5 d4 d6"))
	}
	l, e := merge.Side(9, a, b)
	same(t, "Side", e, api.OK)
	sameList(t, "Side", asPairs(l), of("a1 b2 c3 d4 e7"))
	alone(t, "Side", l)
}

// alone asks that no two texts of pairs share memory: each is written over by itself, its spare room too.
func alone(t *testing.T, what string, l []api.Pair) {
	t.Helper()
	var parts [][]byte
	for _, p := range l {
		parts = append(parts, p.Key, p.Value)
	}
	for i, b := range parts {
		kept := make([][]byte, len(parts))
		for j := range parts {
			kept[j] = slices.Clone(parts[j][:cap(parts[j])])
		}
		scribble(b)
		for j, c := range parts {
			if j != i && !bytes.Equal(c[:cap(c)], kept[j]) {
				t.Errorf("%s: text %d changed with text %d", what, j, i)
			}
		}
	}
}

// P18.5: what is told stays, whatever the source does with its bytes.
func TestWhatIsToldStays(t *testing.T) {
	a, b := tellsText("a1 b2 c3"), tellsText("b4 c5 d6")
	for name, s := range map[string]iter.Seq[api.Pair]{"Union": merge.Union(a.each, b.each), "Group": merge.Group(inARow, a.each, b.each), "Both": merge.Both(a.each, b.each), "Without": merge.Without(a.each, b.each)} {
		var told, then []pair
		var l []api.Pair
		for p := range s {
			l, then = append(l, p), append(then, asPair(p))
		}
		told = asPairs(l)
		sameList(t, name, told, then)
	}
	l, e := merge.Side(2, tellsText("a1 b2 c3").each, tellsText("b4 c5").each)
	same(t, "Side", e, api.OK)
	sameList(t, "Side", asPairs(l), of("a1 b2 c5"))
}

// P18.5: what fold is handed is its own: it may change it, append to it, and keep it.
func TestWhatFoldIsHandedIsItsOwn(t *testing.T) {
	a, b := spaciousText(t, "a1 b2 c3 d4"), spaciousText(t, "b5 d6 e7")
	var kept [][]byte
	var texts []string
	fold := func(key []byte, values [][]byte) ([]byte, bool) {
		answer := slices.Concat(values...)
		for i := range values {
			scribble(values[i])
			values[i] = append(values[i], "more"...)
			kept, texts = append(kept, values[i]), append(texts, string(values[i]))
		}
		for i := range values[:cap(values)] {
			values[:cap(values)][i] = key
		}
		scribble(key)
		key = append(key, "more"...)
		kept, texts = append(kept, key), append(texts, string(key))
		return answer, true
	}
	s := merge.Group(fold, a, b, a)
	for range 2 {
		var got []pair
		for p := range s {
			got = append(got, asPair(p))
			scribblePair(p)
		}
		sameList(t, "told", got, of("a11 b252 c33 d464 e7"))
	}
	for i, b := range kept {
		same(t, "what fold kept", string(b), texts[i])
	}
}

// P18.5: what fold answers is copied at once: it may keep it, and change it when it is asked again.
func TestWhatFoldAnswersIsItsOwn(t *testing.T) {
	a, b := tellsText("a1 b2 c3 d4"), tellsText("b5 d6 e7")
	answer := make([]byte, 0, 16)
	fold := func(key []byte, values [][]byte) ([]byte, bool) {
		answer = append(append(answer[:0], key...), values[0]...)
		copy(answer[:cap(answer)][len(answer):], "spare")
		return answer, true
	}
	var l []api.Pair
	for p := range merge.Group(fold, a.each, b.each) {
		same(t, "what fold answered", string(answer[:len(answer)+5]), string(p.Value)+"spare")
		scribble(p.Key)
		p.Value = append(p.Value, "told"...)
		same(t, "what fold answered", string(answer[len(answer):len(answer)+5]), "spare")
		l = append(l, p)
	}
	sameList(t, "told", asPairs(l), []pair{{"~", "a1told"}, {"~", "b2told"}, {"~", "c3told"}, {"~", "d4told"}, {"~", "e7told"}})

	// Also where it answers what it was handed.
	handed := func(key []byte, values [][]byte) ([]byte, bool) { return key, true }
	l = slices.Collect(merge.Group(handed, a.each, b.each))
	sameList(t, "told", asPairs(l), of("aa bb cc dd ee"))
	alone(t, "Group", l)
}
