package merge_test

import (
	"testing"

	"espalier/merge"
)

// P18.4
func TestRising(t *testing.T) {
	for _, x := range []struct {
		keys []string
		want bool
	}{
		{nil, true},
		{[]string{""}, true},
		{[]string{"a"}, true},
		{[]string{"", "a"}, true},
		{[]string{"", ""}, false},
		{[]string{"a", ""}, false},
		{[]string{"a", "b", "c"}, true},
		{[]string{"a", "a"}, false},
		{[]string{"b", "a"}, false},
		{[]string{"a", "a", "b"}, false},
		{[]string{"a", "b", "b"}, false},
		{[]string{"a", "b", "a"}, false},
		{[]string{"a", "c", "b", "d"}, false},
		{[]string{"a", "ab"}, true},
		{[]string{"ab", "a"}, false},
		{[]string{"a", "a\x00"}, true},
		{[]string{"a\x00", "a"}, false},
		{[]string{"\x7f", "\x80", "\xff", "\xff\x00"}, true},
		{[]string{"\x80", "\x7f"}, false},
	} {
		var l []pair
		for i, k := range x.keys {
			l = append(l, pair{k, string(rune('z' - i))})
		}
		b := bytesOf(l)
		if got := merge.Rising(b); got != x.want {
			t.Errorf("Rising(%q): %v, want %v", x.keys, got, x.want)
		}
		sameList(t, "the list behind Rising", asPairs(b), l)
	}
}
