package tuple_test

import (
	"fmt"
	"math"
	"testing"

	"espalier/api"
	"espalier/tuple"
)

// P2.1
func TestCheckTakesTuples(t *testing.T) {
	for _, l := range [][]api.Item{
		nil,
		{},
		row(null, no, yes, num(0), num(math.MinInt64), num(math.MaxInt64), bits(0), bits(math.MaxUint64), bits(0x7ff0000000000001)),
		row(bin(""), bin("\x00\xff\xc3"), txt(""), txt("a\x00\x7fé€\U0010ffff"), txt("\ufffd"), list(), list(list(), num(1))),
		many(64, num(1)),
		row(list(many(64, list(many(64, null)...))...)),
		row(nested(16)),
		row(nested(16, many(64, num(1))...)),
		row(nested(15, list(), null, list())),
		{{Kind: api.Null, List: []api.Item{}}, {Kind: api.List, List: []api.Item{}}, {Kind: api.Int, Num: 1, List: []api.Item{}}},
	} {
		same(t, fmt.Sprint("Check of ", short(l)), tuple.Check(l), api.OK)
	}
}

// wrongTexts are not UTF-8, each in its own way.
func wrongTexts() []string {
	return []string{
		"\xff", "\xfe", "\x80", "\xbf", "a\x80", "\xc3", "\xc3a", "a\xc3", "\xc3\xa9\xa9",
		"\xc0\x80", "\xc1\xbf", "\xe0\x80\x80", "\xe0\x9f\xbf", "\xf0\x80\x80\x80", "\xf0\x8f\xbf\xbf",
		"\xed\xa0\x80", "\xed\xaf\xbf", "\xed\xb0\x80", "\xed\xbf\xbf",
		"\xf4\x90\x80\x80", "\xf5\x80\x80\x80", "\xf7\xbf\xbf\xbf", "\xf8\x88\x80\x80\x80",
		"\xe2\x82", "\xe2\x82a", "\xe2a\x82", "\xf0\x9f\x98", "\xf0\x9f\x98a", "\xef\xbf", "\xef\xbf\xbd\xbd",
	}
}

// rightTexts stand at the edges of what is UTF-8.
func rightTexts() []string {
	return []string{
		"", "a", "\x00", "\x7f", "\xc2\x80", "\xdf\xbf", "\xe0\xa0\x80", "\xed\x9f\xbf", "\xee\x80\x80", "\xef\xbf\xbd", "\xef\xbf\xbf", "\xf0\x90\x80\x80", "\xf4\x8f\xbf\xbf",
	}
}

// P2.1: each wrong item alone.
func TestCheckRefusesItems(t *testing.T) {
	some := []api.Item{null}
	for _, item := range []api.Item{
		{Kind: -1}, {Kind: 8}, {Kind: math.MinInt}, {Kind: math.MaxInt}, {Kind: 1 << 32}, {Kind: 256}, {Kind: 256 + api.Int},
		{Kind: api.Null, Num: 1}, {Kind: api.Null, Text: "a"}, {Kind: api.Null, List: some},
		{Kind: api.False, Num: -1}, {Kind: api.False, Text: "a"}, {Kind: api.False, List: some},
		{Kind: api.True, Num: math.MinInt64}, {Kind: api.True, Text: "\x00"}, {Kind: api.True, List: some},
		{Kind: api.Int, Num: 1, Text: "a"}, {Kind: api.Int, Num: 1, List: some},
		{Kind: api.Float, Text: "a"}, {Kind: api.Float, List: some},
		{Kind: api.Bytes, Text: "a", Num: 1}, {Kind: api.Bytes, Text: "a", List: some},
		{Kind: api.Text, Text: "a", Num: 1}, {Kind: api.Text, Text: "a", List: some},
		{Kind: api.List, Num: 1}, {Kind: api.List, Text: "a"}, {Kind: api.List, Num: 1, List: some},
	} {
		refusedItem(t, item)
	}
	for _, text := range wrongTexts() {
		refusedItem(t, txt(text))
		same(t, fmt.Sprintf("Check of Bytes %x", text), tuple.Check(row(bin(text))), api.OK)
	}
	for _, text := range rightTexts() {
		same(t, fmt.Sprintf("Check of Text %x", text), tuple.Check(row(txt(text))), api.OK)
	}
}

func refusedItem(t *testing.T, item api.Item) {
	t.Helper()
	for _, l := range [][]api.Item{{item}, {num(1), item}, {item, num(1)}, {list(null, item)}, {nested(16, item)}, append(many(63, null), item)} {
		same(t, fmt.Sprint("Check of ", short(l)), tuple.Check(l), api.ErrItem)
	}
}

// P2.1: the first error from the left, an item ahead of the items of its List.
func TestCheckTellsTheFirstError(t *testing.T) {
	wrong := api.Item{Kind: 8}
	both := api.Item{Kind: api.List, Num: 1, List: many(65, null)}
	for _, c := range []struct {
		what string
		l    []api.Item
		e    api.Errno
	}{
		{"65 items", many(65, null), api.ErrItems},
		{"65 wrong items", many(65, wrong), api.ErrItems},
		{"64 wrong items", many(64, wrong), api.ErrItem},
		{"a List of 65 items", row(list(many(65, null)...)), api.ErrItems},
		{"a List of 65 wrong items", row(list(many(65, wrong)...)), api.ErrItems},
		{"a List of 65 items in a List", row(null, list(null, list(many(65, null)...))), api.ErrItems},
		{"17 Lists in one another", row(nested(17)), api.ErrItems},
		{"17 Lists with a wrong item", row(nested(17, wrong)), api.ErrItems},
		{"16 Lists with a wrong item", row(nested(16, wrong)), api.ErrItem},
		{"40000 Lists in one another", row(nested(40000)), api.ErrItems},
		{"a wrong item, then a List of 65 items", row(wrong, list(many(65, null)...)), api.ErrItem},
		{"a List of 65 items, then a wrong item", row(list(many(65, null)...), wrong), api.ErrItems},
		{"a List in depth 17, then a wrong item", row(nested(17), wrong), api.ErrItems},
		{"a wrong item, then a List in depth 17", row(wrong, nested(17)), api.ErrItem},
		{"a List with a wrong item, then one of 65", row(list(null, wrong), list(many(65, null)...)), api.ErrItem},
		{"a List with one of 65 items, then a wrong item", row(list(list(many(65, null)...)), wrong), api.ErrItems},
		{"a List with a Num of 65 items", row(both), api.ErrItem},
		{"a List with a Num in depth 17", row(nested(16, api.Item{Kind: api.List, Num: 1})), api.ErrItem},
		{"a List with a Text in depth 17 of 65 items", row(nested(16, api.Item{Kind: api.List, Text: "a", List: many(65, null)})), api.ErrItem},
		{"a List with a Num about a List of 65 items", row(api.Item{Kind: api.List, Num: 1, List: row(list(many(65, null)...))}), api.ErrItem},
		{"a Null with 65 items", row(api.Item{List: many(65, null)}), api.ErrItem},
		{"a wrong item behind a List in depth 16", row(nested(16), wrong), api.ErrItem},
	} {
		same(t, "Check of "+c.what, tuple.Check(c.l), c.e)
		b, e := tuple.Encode(c.l...)
		same(t, "Encode of "+c.what, e, c.e)
		same(t, "bytes of "+c.what, len(b), 0)
		text, e := tuple.Print(c.l)
		same(t, "Print of "+c.what, e, c.e)
		same(t, "text of "+c.what, text, "")
		lo, hi, open, e := tuple.Prefix(c.l...)
		same(t, "Prefix of "+c.what, e, c.e)
		same(t, "bounds of "+c.what, len(lo)+len(hi), 0)
		same(t, "open of "+c.what, open, false)
	}
}

// P2.1: a List that is among its own items has no end, and is refused in depth 17 as any other.
func TestCheckOfAListInItself(t *testing.T) {
	l := make([]api.Item, 1)
	l[0] = api.Item{Kind: api.List, List: l}
	same(t, "Check", tuple.Check(l), api.ErrItems)
	_, e := tuple.Encode(l...)
	same(t, "Encode", e, api.ErrItems)
	_, e = tuple.Print(l)
	same(t, "Print", e, api.ErrItems)
}
