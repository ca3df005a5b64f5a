package tuple_test

import (
	"bytes"
	"cmp"
	"fmt"
	"math"
	"slices"
	"strings"
	"testing"

	"espalier/api"
	"espalier/tuple"
)

// risingInts has the edges of every number of bytes, on both sides of 0.
func risingInts() []int64 {
	l := []int64{-1, 0, 1, 2, -2, math.MaxInt64, math.MinInt64, math.MaxInt64 - 1, math.MinInt64 + 1}
	for k := 8; k < 64; k += 8 {
		n := int64(1) << k
		l = append(l, n-1, n, n+1, -n-1, -n, -n+1)
	}
	slices.Sort(l)
	return slices.Compact(l)
}

// risingFloats are bits in the order that the document tells.
func risingFloats() []uint64 {
	var positive []uint64
	for _, f := range []float64{0, math.SmallestNonzeroFloat64, 2 * math.SmallestNonzeroFloat64, math.Nextafter(0x1p-1022, 0), 0x1p-1022, 0.5, 1, 1.5, 2, 1e300, math.MaxFloat64, math.Inf(1)} {
		positive = append(positive, math.Float64bits(f))
	}
	positive = append(positive, 0x7ff0000000000001, 0x7ff8000000000000, 0x7ff8000000000001, 0x7fffffffffffffff)
	var l []uint64
	for _, n := range slices.Backward(positive) {
		l = append(l, n|1<<63)
	}
	return append(l, positive...)
}

// risingTexts have 00 and FF in them, and begin one another.
func risingTexts() []string {
	return []string{"", "\x00", "\x00\x00", "\x00\x00\x01", "\x00\x01", "\x00\x01a", "\x00\xff", "\x00\xff\x00", "\x01", "\x01\x00", "a", "a\x00", "a\x00\x00", "a\x00\x01", "a\x00b", "a\x00\xff", "a\x01", "aa", "ab", "b", "\xfe", "\xff", "\xff\x00", "\xff\x00\xff", "\xff\x01", "\xff\xff"}
}

// risingItems stand in the document's order.
func risingItems() []api.Item {
	l := []api.Item{null, no, yes}
	for _, n := range risingInts() {
		l = append(l, num(n))
	}
	for _, n := range risingFloats() {
		l = append(l, bits(n))
	}
	for _, text := range risingTexts() {
		l = append(l, bin(text))
	}
	for _, text := range []string{"", "\x00", "\x00a", "\x01", "a", "a\x00", "a\x00\x00", "a\x00b", "a\x01", "ab", "\x7f", "\u0080", "é", "é\x00", "\ufffd", "\U0010ffff"} {
		l = append(l, txt(text))
	}
	return append(l, list(), list(null), list(null, null), list(null, num(0)), list(no), list(num(-1)), list(num(0)), list(num(0), null), list(num(0), list()), list(num(1)),
		list(txt("a")), list(txt("a"), null), list(txt("a\x00")), list(txt("b")), list(list()), list(list(), null), list(list(), list()), list(list(null)), list(list(null), null), list(list(list())))
}

// risingTuples stand in the document's order.
func risingTuples() [][]api.Item {
	l := [][]api.Item{nil}
	for _, item := range risingItems() {
		l = append(l, row(item), row(item, null), row(item, null, null), row(item, num(-1)), row(item, num(1)), row(item, bin("\xff")), row(item, list()), row(item, list(list())))
	}
	return l
}

// P2.3, P2.6: every two of them, as Compare says and as their bytes stand.
func TestOrder(t *testing.T) {
	all := risingTuples()
	var written [][]byte
	for _, l := range all {
		b, e := tuple.Encode(l...)
		same(t, "Encode of "+short(l), e, api.OK)
		written = append(written, b)
	}
	for i := range all {
		for j := range all {
			want := cmp.Compare(i, j)
			if tuple.Compare(all[i], all[j]) != want || bytes.Compare(written[i], written[j]) != want {
				t.Fatalf("%s to %s: Compare %d, bytes %d, want %d", short(all[i]), short(all[j]), tuple.Compare(all[i], all[j]), bytes.Compare(written[i], written[j]), want)
			}
		}
	}
}

// P2.6: no item's bytes begin another item's.
func TestNoItemBeginsAnother(t *testing.T) {
	var written [][]byte
	for _, item := range risingItems() {
		b, _ := tuple.Encode(item)
		written = append(written, b)
	}
	for i, a := range written {
		for j, b := range written {
			same(t, fmt.Sprintf("% X begins % X", a, b), bytes.HasPrefix(b, a), i == j)
		}
	}
}

// P2.3: the chapter's examples.
func TestCompareExamples(t *testing.T) {
	same(t, "(1) to (1, Null)", tuple.Compare(row(num(1)), row(num(1), null)), -1)
	same(t, "(-1) to (Null)", tuple.Compare(row(num(-1)), row(null)), 1)
	same(t, "(Text a) to (Bytes b)", tuple.Compare(row(txt("a")), row(bin("b"))), 1)
	same(t, "nothing to nothing", tuple.Compare(nil, []api.Item{}), 0)
	same(t, "an empty List to a nil one", tuple.Compare(row(list()), row(api.Item{Kind: api.List, List: []api.Item{}})), 0)
	same(t, "the first two that are not alike decide", tuple.Compare(row(num(1), num(3), num(0)), row(num(1), num(2), num(9))), 1)
}

// P2.3: any items, also such as may not be; what a kind does not have doesn't count.
func TestCompareOfWhatMayNotBe(t *testing.T) {
	full := func(kind int) api.Item {
		return api.Item{Kind: kind, Num: 7, Text: "z", List: row(num(1))}
	}
	kinds := []int{math.MinInt, -1, api.Null, api.False, api.True, api.Int, api.Float, api.Bytes, api.Text, api.List, 8, 9, math.MaxInt}
	for i, a := range kinds {
		for j, b := range kinds {
			same(t, fmt.Sprintf("kind %d to %d", a, b), tuple.Compare(row(full(a)), row(full(b))), cmp.Compare(i, j))
		}
	}
	for _, kind := range kinds {
		what := fmt.Sprintf("of kind %d, ", kind)
		other := full(kind)
		other.Num = 8
		hasNum := kind == api.Int || kind == api.Float
		same(t, what+"other Num", tuple.Compare(row(full(kind)), row(other)) == 0, !hasNum)
		other = full(kind)
		other.Text = "y"
		same(t, what+"other Text", tuple.Compare(row(full(kind)), row(other)) == 0, kind != api.Bytes && kind != api.Text)
		other = full(kind)
		other.List = nil
		same(t, what+"other List", tuple.Compare(row(full(kind)), row(other)) == 0, kind != api.List)
	}
	same(t, "Texts that are not UTF-8", tuple.Compare(row(txt("\xff")), row(txt("\xfe"))), 1)
	same(t, "65 items", tuple.Compare(many(65, null), many(64, null)), 1)
	same(t, "70 and 80 items", tuple.Compare(many(70, num(2)), many(80, num(2))), -1)
	same(t, "17 Lists", tuple.Compare(row(nested(17, num(1))), row(nested(17, num(2)))), -1)
	same(t, "60000 Lists", tuple.Compare(row(nested(60000, num(3))), row(nested(60000, num(2)))), 1)
	same(t, "60000 Lists alike", tuple.Compare(row(nested(60000, num(3))), row(nested(60000, num(3)))), 0)
	long := strings.Repeat("a", 1<<20)
	same(t, "long Texts", tuple.Compare(row(txt(long)), row(txt(long+"a"))), -1)
}

// P2.3, P2.6: bytes against Compare, by chance.
func TestOrderByChance(t *testing.T) {
	r := chance()
	var all [][]api.Item
	for range 400 {
		l := someItems(r, 3)
		all = append(all, l)
		if len(l) > 0 {
			all = append(all, l[:len(l)-1], append(slices.Clone(l), someItem(r, 1)))
		}
	}
	for _, a := range all {
		for _, b := range all {
			x, _ := tuple.Encode(a...)
			y, _ := tuple.Encode(b...)
			if got := tuple.Compare(a, b); got != bytes.Compare(x, y) || got != -tuple.Compare(b, a) || (got == 0) != alike(a, b) {
				t.Fatalf("Compare of %s and %s: %d, bytes % X and % X", short(a), short(b), got, x, y)
			}
		}
	}
}

// P2.4
func TestPrefix(t *testing.T) {
	for _, c := range []struct {
		l      []api.Item
		lo, hi string
	}{
		{row(num(1)), "13 81 01", "13 81 02"},
		{row(null), "10", "11"},
		{row(yes), "12", "13"},
		{row(list()), "17 00", "17 01"},
		{row(num(255)), "13 81 FF", "13 82"},
		{row(num(-1)), "13 7F", "13 80"},
		{row(num(65535), num(255)), "13 82 FF FF 13 81 FF", "13 82 FF FF 13 82"},
		{row(bits(0x7fffffffffffffff)), "14 FF FF FF FF FF FF FF FF", "15"},
		{row(null, bits(0x7fffffffffffffff)), "10 14 FF FF FF FF FF FF FF FF", "10 15"},
		{row(txt("a"), bin("\xff")), "16 61 00 01 15 FF 00 01", "16 61 00 01 15 FF 00 02"},
	} {
		lo, hi, open, e := tuple.Prefix(c.l...)
		what := "Prefix of " + short(c.l)
		sameBytes(t, what+": lo", lo, raw(t, c.lo))
		sameBytes(t, what+": hi", hi, raw(t, c.hi))
		same(t, what+": open", open, false)
		same(t, what, e, api.OK)
	}
	for _, none := range [][]api.Item{nil, {}} {
		lo, hi, open, e := tuple.Prefix(none...)
		same(t, "Prefix of none: bytes", len(lo)+len(hi), 0)
		same(t, "Prefix of none: open", open, true)
		same(t, "Prefix of none", e, api.OK)
	}
}

// P2.4: Encode's errors, and the most bytes that there may be.
func TestPrefixOfMuch(t *testing.T) {
	lo, hi, open, e := tuple.Prefix(bin(strings.Repeat("a", 65533)))
	same(t, "Prefix of 65536 bytes", e, api.OK)
	same(t, "bytes of lo", len(lo), 65536)
	same(t, "bytes of hi", len(hi), 65536)
	same(t, "open", open, false)
	lo, hi, open, e = tuple.Prefix(bin(strings.Repeat("a", 65534)))
	same(t, "Prefix of 65537 bytes", e, api.ErrLong)
	same(t, "bytes", len(lo)+len(hi), 0)
	same(t, "open", open, false)
	_, _, open, e = tuple.Prefix(api.Item{Kind: 8})
	same(t, "Prefix of a wrong item", e, api.ErrItem)
	same(t, "open", open, false)
}

// P2.6: the tuples that begin with some items are just those from lo on and ahead of hi.
func TestPrefixHoldsWhatBeginsSo(t *testing.T) {
	r := chance()
	var all [][]api.Item
	for range 300 {
		all = append(all, someItems(r, 2))
	}
	all = append(all, risingTuples()...)
	for range 120 {
		begin := all[r.Intn(len(all))]
		begin = begin[:r.Intn(len(begin)+1)]
		lo, hi, open, _ := tuple.Prefix(begin...)
		for _, l := range append(all, append(slices.Clone(begin), someItem(r, 2)), begin) {
			b, _ := tuple.Encode(l...)
			begins := len(l) >= len(begin) && alike(l[:len(begin)], begin)
			within := bytes.Compare(lo, b) <= 0 && (open || bytes.Compare(b, hi) < 0)
			if begins != within || begins != bytes.HasPrefix(b, lo) {
				t.Fatalf("%s begins with %s: %v; its bytes % X lie there: %v", short(l), short(begin), begins, b, within)
			}
		}
	}
}
