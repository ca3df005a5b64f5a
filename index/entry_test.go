package index_test

import (
	"bytes"
	"fmt"
	"testing"

	"espalier/api"
	"espalier/index"
	"espalier/tuple"
)

// P19.8: an entry is the record's items in the index's fields, in their order, and its key.
func TestEntry(t *testing.T) {
	r := rec(num(7), "a", word("x"), "b", null(), "c", list(num(1), null()), "d", float(1.5))
	for _, c := range []struct {
		x    api.Index
		want string
	}{
		{by("x", "a"), "\x16x\x00\x01"}, {alone("x", "a"), "\x16x\x00\x01"}, {by("y", "b"), "\x10"}, {by("x", "none"), "\x10"},
		{by("x", "d", "a"), "\x14\xbf\xf8\x00\x00\x00\x00\x00\x00\x16x\x00\x01"}, {by("x", "a", "d"), "\x16x\x00\x01\x14\xbf\xf8\x00\x00\x00\x00\x00\x00"},
		{by("x", "c", "b", "a"), "\x17\x13\x81\x01\x10\x00\x10\x16x\x00\x01"},
		{by("x", "h", "g", "f", "e", "d0", "c0", "b0", "a"), "\x10\x10\x10\x10\x10\x10\x10\x16x\x00\x01"},
	} {
		b, e := index.Entry(c.x, r)
		same(t, fmt.Sprintf("Entry of %v", c.x), fmt.Sprintf("%q %d", b, e), fmt.Sprintf("%q 0", c.want+"\x13\x81\x07"))
	}
	b, e := index.Entry(by("x", "a"), rec(null()))
	same(t, "Entry of no fields", fmt.Sprintf("%q %d", b, e), `"\x10\x10" 0`)
	b, e = index.Entry(by("x", "a"), rec(list()))
	same(t, "Entry of an empty List", fmt.Sprintf("%q %d", b, e), `"\x10\x17\x00" 0`)
}

// P19.8: what is no index, in every way in which it may be none.
func TestEntryInNoIndex(t *testing.T) {
	good := rec(num(1), "a", num(1))
	for _, x := range []api.Index{
		{}, {Name: "x"}, {Fields: []string{"a"}}, by("X", "a"), by(long(31, 'x'), "a"), by("x/y", "a"), by("x", ""), by("x", "key"), by("x", "a", "a"), by("x", "A"), by("x", "0a"), by("x", "a", "key"),
		by("x", long(65, 'a')), by("x", "a", "b", "c", "d", "e", "f", "g", "h", "i"),
	} {
		for _, r := range []api.Record{good, rec(api.Item{Kind: 9}), rec(num(1), "key", num(1)), rec(num(1), "a", word("\xff"))} {
			b, e := index.Entry(x, r)
			same(t, fmt.Sprintf("Entry in %.60v", x), fmt.Sprint(len(b), e), fmt.Sprint(0, api.ErrIndex))
		}
	}
}

// P19.8, R5: which error comes first; that of tuple.Encode at last, which only tells that the entry is too long.
func TestWhichErrorOfEntryComesFirst(t *testing.T) {
	wrong := api.Item{Kind: 9}
	for _, c := range []struct {
		what string
		r    api.Record
		want api.Errno
	}{
		{"a wrong key and wrong names", rec(wrong, "key", wrong), api.ErrItem},
		{"a key that is too long and wrong names", rec(word(long(65534, 'k')), "key", wrong), api.ErrLong},
		{"wrong names and wrong items", rec(num(1), "key", wrong), api.ErrField},
		{"33 fields", numbered(num(1), 33, wrong), api.ErrField},
		{"wrong items", rec(num(1), "a", nested(17)), api.ErrItems},
		{"wrong items that the index has not", rec(num(1), "b", wrong), api.ErrItem},
		{"a value that is too long", rec(num(1), "b", word(long(65530, 'b'))), api.ErrLong},
		{"an entry that is too long", rec(word(long(30, 'k')), "a", word(long(65520, 'a'))), api.ErrLong},
		{"one that is too long by its key", rec(word(long(65532, 'k')), "a", num(0)), api.ErrLong},
		{"32 fields", numbered(num(1), 32, num(1)), api.OK},
	} {
		b, e := index.Entry(by("x", "a"), c.r)
		same(t, c.what, fmt.Sprint(len(b) > 0, e), fmt.Sprint(c.want == api.OK, c.want))
	}
}

// P19.8: an entry of 65536 bytes is told, whatever a grove could keep; one of a byte more is not.
func TestTheLongestEntry(t *testing.T) {
	// A Bytes that has no 00 has 3 bytes beside its own.
	for _, c := range []struct {
		key, item int
		want      api.Errno
	}{{0, 100, api.OK}, {60, 65536 - 60 - 6, api.OK}, {60, 65536 - 60 - 5, api.ErrLong}, {40000, 65536 - 40000 - 6, api.OK}, {40000, 65536 - 40000 - 5, api.ErrLong}} {
		b, e := index.Entry(by("x", "a"), rec(bin(long(c.key, 'k')), "a", bin(long(c.item, 'a'))))
		length := c.key + c.item + 6
		if c.want != api.OK {
			length = 0
		}
		same(t, fmt.Sprintf("a key of %d bytes, an item of %d", c.key, c.item), fmt.Sprint(len(b), e), fmt.Sprint(length, c.want))
	}
}

// P19.8, P19.9: entries stand to one another as the items there do, and then the keys.
func TestOrderOfEntries(t *testing.T) {
	l := items()
	x := by("x", "b", "a")
	r := chance()
	for range 20000 {
		draw := func() api.Record {
			return rec(l[r.Intn(len(l))], "a", l[r.Intn(len(l))], "b", l[r.Intn(4)])
		}
		p, q := draw(), draw()
		a, e := index.Entry(x, p)
		same(t, "Entry", e, api.OK)
		b, e := index.Entry(x, q)
		same(t, "Entry", e, api.OK)
		same(t, "entries", string(a), entryOf(x, p))
		want := tuple.Compare(append(itemsOf(x, p), p.Key), append(itemsOf(x, q), q.Key))
		same(t, fmt.Sprintf("%v beside %v", p, q), bytes.Compare(a, b), want)
		stop(t)
	}
}
