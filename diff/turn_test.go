package diff_test

import (
	"fmt"
	"testing"

	"espalier/api"
	"espalier/diff"
)

// P22.4: from the last to the first, each the other way round.
func TestTurn(t *testing.T) {
	same(t, "none", len(diff.Turn(nil))+len(diff.Turn([]api.Change{})), 0)
	got := diff.Turn([]api.Change{ofTree("a", false, true), ofPair("a", "k", none, "1"), ofPair("b", "l", "2", ""), ofPair("b", "m", "3", none), ofTree("c", true, false)})
	sameList(t, "five", asTexts(got), asTexts([]api.Change{ofTree("c", false, true), ofPair("b", "m", none, "3"), ofPair("b", "l", "", "2"), ofPair("a", "k", "1", none), ofTree("a", true, false)}))
	// Of one that may not be, too.
	odd := []api.Change{
		{},
		{Tree: "A", Old: []byte("1"), New: []byte("2")},
		{Key: []byte("k"), Was: true, Is: true},
		{Tree: "b", Was: true, Is: true, New: []byte("2")},
		{Tree: "c", Key: []byte("k"), Is: true, Old: []byte("1")},
		{Tree: "d", Key: []byte(long(70, 1)), Was: true, Old: []byte(long(70000, 2))},
	}
	sameList(t, "odd ones", asTexts(diff.Turn(odd)), asTexts([]api.Change{
		{Tree: "d", Key: []byte(long(70, 1)), Is: true, New: []byte(long(70000, 2))},
		{Tree: "c", Key: []byte("k"), Was: true, New: []byte("1")},
		{Tree: "b", Was: true, Is: true, Old: []byte("2")},
		{Key: []byte("k"), Was: true, Is: true},
		{Tree: "A", Old: []byte("2"), New: []byte("1")},
		{},
	}))
	sameList(t, "turned twice", asTexts(diff.Turn(diff.Turn(odd))), asTexts(odd))
}

// P22.4, R2: what is answered shares nothing with what was handed in, nor with another answer, and what was handed in stays as it is.
func TestTurnIsNewMemory(t *testing.T) {
	for _, n := range []int{0, 1, 5, 33, 600} {
		given := make([]api.Change, 0, 4)
		for i := range 3 {
			given = append(given, api.Change{Tree: fmt.Sprint(i), Key: spacious(long(n, 1)), Was: true, Old: spacious(long(n, 2)), New: spacious(long(n, 3))})
		}
		spare := given[3:4]
		spare[0].Tree = "spare"
		was := asTexts(given)
		one, other := diff.Turn(given), diff.Turn(given)
		want := asTexts(one)
		for i := range one {
			for _, b := range [][]byte{one[i].Key, one[i].Old, one[i].New} {
				scribble(b, byte(10+i))
			}
			one[i].Tree = "spoilt"
		}
		clear(one[len(one):cap(one)])
		sameList(t, "what was handed in", asTexts(given), was)
		same(t, "the list's spare room", spare[0].Tree, "spare")
		for _, c := range given {
			untouched(t, "a key", c.Key, long(n, 1))
			untouched(t, "an old value", c.Old, long(n, 2))
			untouched(t, "a new value", c.New, long(n, 3))
		}
		clear(given)
		sameList(t, "another answer", asTexts(other), want)
	}
}
