package ink_test

import (
	"bytes"
	"fmt"
	"math"
	"testing"

	"espalier/api"
	"espalier/ink"
)

// P1.4
func TestOrdered(t *testing.T) {
	for _, c := range []struct{ b, want string }{
		{"", "00 01"},
		{"61 00 62", "61 00 FF 62 00 01"},
		{"00", "00 FF 00 01"},
		{"00 00", "00 FF 00 FF 00 01"},
		{"00 01", "00 FF 01 00 01"},
		{"FF", "FF 00 01"},
		{"00 FF", "00 FF FF 00 01"},
		{"01", "01 00 01"},
	} {
		sameBytes(t, fmt.Sprintf("Ordered(%s)", c.b), ink.Ordered(raw(t, c.b)), raw(t, c.want))
	}
}

// P1.4
func TestReadOrdered(t *testing.T) {
	for _, c := range []struct {
		b    string
		at   int
		want string
		next int
		err  api.Errno
	}{
		{"61 00 FF 62 00 01 07", 0, "61 00 62", 6, api.OK},
		{"61 00 FF 62 00 01 07", 3, "62", 6, api.OK},
		{"61 00 FF 62 00 01", 4, "", 6, api.OK},
		{"00 01", 0, "", 2, api.OK},
		{"78 78 00 01", 2, "", 4, api.OK},
		{"00 01 00 02", 0, "", 2, api.OK},
		{"00 FF 00 FF 00 01", 0, "00 00", 6, api.OK},
		{"FF 01 00 01", 0, "FF 01", 4, api.OK},
		{"61 00 02", 0, "", 0, api.ErrForm},
		{"61 00 00", 0, "", 0, api.ErrForm},
		{"61 00 FE", 0, "", 0, api.ErrForm},
		{"00 02 00 01", 0, "", 0, api.ErrForm},
		{"61 00 02 61 00", 0, "", 0, api.ErrForm},
		{"61 00", 0, "", 0, api.ErrShort},
		{"61", 0, "", 0, api.ErrShort},
		{"", 0, "", 0, api.ErrShort},
		{"61 00 FF", 0, "", 0, api.ErrShort},
		{"00 01", 1, "", 0, api.ErrShort},
		{"00 01", 2, "", 0, api.ErrShort},
		{"00 01", 3, "", 0, api.ErrArg},
		{"00 01", -1, "", 0, api.ErrArg},
		{"", 1, "", 0, api.ErrArg},
		{"00 01", math.MaxInt, "", 0, api.ErrArg},
		{"00 01", math.MinInt, "", 0, api.ErrArg},
	} {
		got, next, err := ink.ReadOrdered(raw(t, c.b), c.at)
		what := fmt.Sprintf("ReadOrdered(%s, %d)", c.b, c.at)
		sameBytes(t, what, got, raw(t, c.want))
		same(t, what, next, c.next)
		same(t, what, err, c.err)
	}
}

// P1.4, P0.5
func TestOrderedIsReadBack(t *testing.T) {
	for _, b := range shortTexts("\x00\x01a\xff", 4) {
		written := ink.Ordered(b)
		got, next, err := ink.ReadOrdered(append(append([]byte{0}, written...), 0xff, 0), 1)
		sameBytes(t, fmt.Sprintf("% X read back", b), got, b)
		same(t, "place behind", next, 1+len(written))
		same(t, "error", err, api.OK)
	}
}

// P1.5
func TestOrderedSorts(t *testing.T) {
	texts := shortTexts("\x00\x01a\xfe\xff", 3)
	ends := []string{"", "\x00", "\x01", "\xff\xff"}
	for _, a := range texts {
		for _, b := range texts {
			want := bytes.Compare(a, b)
			x, y := ink.Ordered(a), ink.Ordered(b)
			if bytes.Compare(x, y) != want {
				t.Errorf("order of Ordered(% X) and Ordered(% X) is not %d", a, b, want)
			}
			if want == 0 {
				continue
			}
			if bytes.HasPrefix(x, y) {
				t.Errorf("Ordered(% X) begins with Ordered(% X)", a, b)
			}
			for i, end := range ends {
				other := ends[len(ends)-1-i]
				if bytes.Compare(append(ink.Ordered(a), end...), append(ink.Ordered(b), other...)) != want {
					t.Errorf("order of % X and % X with %X and %X behind them is not %d", a, b, end, other, want)
				}
			}
		}
	}
}

// P1.6
func TestCommon(t *testing.T) {
	for _, c := range []struct {
		texts []string
		want  int
	}{
		{nil, 0},
		{[]string{""}, 0},
		{[]string{"ab"}, 2},
		{[]string{"abc", "abd", "ab"}, 2},
		{[]string{"ab", "abd", "abc"}, 2},
		{[]string{"abc", "abc"}, 3},
		{[]string{"abc", "abc", "abc"}, 3},
		{[]string{"abc", "abcd", "abce"}, 3},
		{[]string{"abcd", "abxd"}, 2},
		{[]string{"abx", "aby", "ax"}, 1},
		{[]string{"ax", "abx", "abx"}, 1},
		{[]string{"a", ""}, 0},
		{[]string{"", "a"}, 0},
		{[]string{"a", "b"}, 0},
		{[]string{"a", "b", "a"}, 0},
		{[]string{"\x00\xff", "\x00\xff\x00"}, 2},
	} {
		var texts [][]byte
		for _, text := range c.texts {
			texts = append(texts, []byte(text))
		}
		same(t, fmt.Sprintf("Common(%q)", c.texts), ink.Common(texts...), c.want)
	}
	same(t, "Common(nil)", ink.Common(nil), 0)
	same(t, "Common of a text and nil", ink.Common([]byte("a"), nil), 0)
}

// P1.7
func TestBetween(t *testing.T) {
	for _, c := range []struct {
		a, b, want string
		err        api.Errno
	}{
		{"abc", "abx", "abx", api.OK},
		{"ab", "abcd", "abc", api.OK},
		{"", "q", "q", api.OK},
		{"", "qrs", "q", api.OK},
		{"a", "bcd", "b", api.OK},
		{"abcdef", "abx", "abx", api.OK},
		{"a\xff", "b", "b", api.OK},
		{"a\x00", "a\x01\x00", "a\x01", api.OK},
		{"a", "a\x00\x00", "a\x00", api.OK},
		{"\x7f", "\x80", "\x80", api.OK},
		{"b", "a", "", api.ErrArg},
		{"b", "aaaa", "", api.ErrArg},
		{"\x80", "\x7f", "", api.ErrArg},
		{"a", "a", "", api.ErrArg},
		{"", "", "", api.ErrArg},
		{"ab", "a", "", api.ErrArg},
		{"a", "", "", api.ErrArg},
	} {
		got, err := ink.Between([]byte(c.a), []byte(c.b))
		what := fmt.Sprintf("Between(%q, %q)", c.a, c.b)
		sameBytes(t, what, got, []byte(c.want))
		same(t, what, err, c.err)
	}
}

// P1.7: against all beginnings of b, tried one by one.
func TestBetweenIsTheShortest(t *testing.T) {
	texts := shortTexts("\x00a\xff", 4)
	for _, a := range texts {
		for _, b := range texts {
			got, err := ink.Between(a, b)
			if bytes.Compare(a, b) >= 0 {
				same(t, "error of texts that don't rise", err, api.ErrArg)
				same(t, "length beside an error", len(got), 0)
				continue
			}
			n := 0
			for bytes.Compare(b[:n], a) <= 0 {
				n++
			}
			same(t, "error", err, api.OK)
			sameBytes(t, fmt.Sprintf("Between(% X, % X)", a, b), got, b[:n])
		}
	}
}

// P1.8
func TestBehind(t *testing.T) {
	for _, c := range []struct {
		b, want string
		ok      bool
	}{
		{"61 62", "61 63", true},
		{"61 FF FF", "62", true},
		{"61 00", "61 01", true},
		{"FE", "FF", true},
		{"00", "01", true},
		{"FF 00", "FF 01", true},
		{"FF FE FF", "FF FF", true},
		{"61 FF 62", "61 FF 63", true},
		{"FF", "", false},
		{"FF FF FF", "", false},
		{"", "", false},
	} {
		got, ok := ink.Behind(raw(t, c.b))
		what := fmt.Sprintf("Behind(%s)", c.b)
		sameBytes(t, what, got, raw(t, c.want))
		same(t, what, ok, c.ok)
	}
	got, ok := ink.Behind(nil)
	if len(got) != 0 || ok {
		t.Errorf("Behind(nil): % X, %v", got, ok)
	}
}

// P1.8: behind all texts that begin with b, and not behind any other text that is.
func TestBehindIsTheLeast(t *testing.T) {
	texts := shortTexts("\x00\x01\xfe\xff", 4)
	for _, b := range texts {
		got, ok := ink.Behind(b)
		for _, text := range texts {
			if bytes.Compare(text, b) < 0 {
				continue
			}
			begins := bytes.HasPrefix(text, b)
			if ahead := !ok || bytes.Compare(text, got) < 0; ahead != begins {
				t.Errorf("Behind(% X) is % X, %v: % X lies on the wrong side", b, got, ok, text)
			}
		}
	}
}
