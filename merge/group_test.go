package merge_test

import (
	"fmt"
	"slices"
	"strings"
	"testing"

	"espalier/merge"
)

// asked notes what a fold is asked.
type asked struct{ log []string }

func (a *asked) fold(tells func(key string) bool) func([]byte, [][]byte) ([]byte, bool) {
	return func(key []byte, values [][]byte) ([]byte, bool) {
		var l []string
		for _, v := range values {
			l = append(l, string(v))
		}
		a.log = append(a.log, string(key)+":"+strings.Join(l, ","))
		return []byte("!"), tells(string(key))
	}
}

func always(string) bool { return true }
func never(string) bool  { return false }

// P18.1: fold is asked once a key, by rising keys, with the values of all sources that have it, in their order.
func TestWhatFoldIsAsked(t *testing.T) {
	sources := sequences([]*teller{tellsText("b1 d2"), nil, tellsText("a3 b4 d c5"), tells(), tellsText("b6 c7 d8"), tellsText("b9")})
	want := []string{"a:3", "b:1,4,6,9", "c:7", "d:2,,8"}
	for _, tells := range []func(string) bool{always, never, func(key string) bool { return key == "b" || key == "d" }} {
		var a asked
		s := merge.Group(a.fold(tells), sources...)
		same(t, "asked when Group was called", len(a.log), 0)
		var told []pair
		for _, k := range []string{"a", "b", "c", "d"} {
			if tells(k) {
				told = append(told, pair{k, "!"})
			}
		}
		sameList(t, "told", all(s), told)
		sameList(t, "asked", a.log, want)
		all(s)
		sameList(t, "asked in two ranges", a.log, append(slices.Clone(want), want...))
	}
}

// P18.2: fold is asked of no key behind the last one that was told, when the range is left.
func TestFoldIsAskedOfNoKeyAhead(t *testing.T) {
	sources := sequences([]*teller{tellsText("a1 b2 c3 d4"), tellsText("b5 d6 e7")})
	whole := []string{"a:1", "b:2,5", "c:3", "d:4,6", "e:7"}
	for _, left := range []string{"a", "b", "c", "d", "e"} {
		for _, first := range []string{"a", left} {
			var a asked
			for p := range merge.Group(a.fold(func(key string) bool { return key >= first }), sources...) {
				if string(p.Key) == left {
					break
				}
			}
			n := int(left[0]-'a') + 1
			sameList(t, fmt.Sprintf("asked when the range was left at %s, told from %s on", left, first), a.log, whole[:n])
		}
	}
}

// P18.1: fold nil: nothing is told, and no source is read.
func TestFoldNil(t *testing.T) {
	a, b := tellsText("a1 b2"), tellsText("b3")
	for range merge.Group(nil, a.each, nil, b.each) {
		t.Error("something is told")
	}
	for range merge.Group(nil) {
		t.Error("something is told of no source")
	}
	eachWasBegun(t, "Group with fold nil", []*teller{a, b}, 0)
}

// P18.1: a fold's answer of nothing is told as an empty value; what it answers beside false is not.
func TestWhatFoldAnswers(t *testing.T) {
	s := tellsText("a1 b2 c3 d4")
	fold := func(key []byte, _ [][]byte) ([]byte, bool) {
		switch string(key) {
		case "a":
			return nil, true
		case "b":
			return []byte("no"), false
		case "c":
			return []byte{}, true
		}
		return []byte("yes"), true
	}
	sameList(t, "told", all(merge.Group(fold, s.each)), []pair{{"a", ""}, {"c", ""}, {"d", "yes"}})
}
