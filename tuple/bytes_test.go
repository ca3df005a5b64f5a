package tuple_test

import (
	"bytes"
	"encoding/hex"
	"fmt"
	"math"
	"slices"
	"strings"
	"testing"

	"espalier/api"
	"espalier/tuple"
)

// form is a tuple with its bytes and its text.
type form struct {
	l           []api.Item
	bytes, text string
}

// examples are the rows of the chapter's table, the example of DOC.md, and some at the edges.
func examples() []form {
	return []form{
		{nil, "", ""},
		{row(null, yes), "10 12", "null true"},
		{row(num(0), num(1), num(255), num(256)), "13 80 13 81 01 13 81 FF 13 82 01 00", "0 1 255 256"},
		{row(num(-1), num(-2), num(-256), num(-257)), "13 7F 13 7E FE 13 7E 00 13 7D FE FF", "-1 -2 -256 -257"},
		{row(float(1.5), float(math.Copysign(0, -1))), "14 BF F8 00 00 00 00 00 00 14 7F FF FF FF FF FF FF FF", "0x1.8p+00 -0x0p+00"},
		{row(bin("a\x00b")), "15 61 00 FF 62 00 01", "x'610062'"},
		{row(txt("é\"")), "16 C3 A9 22 00 01", `"é\""`},
		{row(list(num(1), list())), "17 13 81 01 17 00 00", "[1 []]"},
		{row(num(300)), "13 82 01 2C", "300"},
		{row(no), "11", "false"},
		{row(bin(""), txt("")), "15 00 01 16 00 01", `x'' ""`},
		{row(bin("\x00"), bin("\x00\x00"), bin("\xff")), "15 00 FF 00 01 15 00 FF 00 FF 00 01 15 FF 00 01", "x'00' x'0000' x'ff'"},
		{row(txt("\x00a\\")), "16 00 FF 61 5C 00 01", `"\x00a\\"`},
		{row(list(), list(null), null), "17 00 17 10 00 10", "[] [null] null"},
		{row(nested(16)), strings.Repeat("17", 16) + strings.Repeat("00", 16), strings.Repeat("[", 16) + strings.Repeat("]", 16)},
	}
}

// P2.2: both ways.
func TestFormsAsBytes(t *testing.T) {
	for _, c := range examples() {
		b, e := tuple.Encode(c.l...)
		same(t, "Encode of "+c.text, e, api.OK)
		sameBytes(t, "Encode of "+c.text, b, raw(t, c.bytes))
		l, e := tuple.Decode(raw(t, c.bytes))
		same(t, "Decode of "+c.bytes, e, api.OK)
		sameItems(t, "Decode of "+c.bytes, l, c.l)
	}
}

// P2.2: Ints at every number of bytes, on both sides of 0.
func TestIntsAsBytes(t *testing.T) {
	cases := map[int64]string{
		math.MaxInt64: "88 7F FF FF FF FF FF FF FF",
		math.MinInt64: "77 80 00 00 00 00 00 00 00",
		-1:            "7F",
		0:             "80",
	}
	for k := 1; k <= 7; k++ {
		most := int64(1)<<(8*k) - 1
		cases[most] = fmt.Sprintf("%02X", 0x80+k) + strings.Repeat(" FF", k)
		cases[most+1] = fmt.Sprintf("%02X 01", 0x81+k) + strings.Repeat(" 00", k)
		cases[-most-1] = fmt.Sprintf("%02X", 0x7f-k) + strings.Repeat(" 00", k)
		cases[-most-2] = fmt.Sprintf("%02X FE", 0x7e-k) + strings.Repeat(" FF", k)
	}
	for n, want := range cases {
		sameForm(t, num(n), "13 "+want)
	}
}

// sameForm writes an item as these bytes, and reads it from them, with others about it too.
func sameForm(t *testing.T, item api.Item, want string) {
	t.Helper()
	b, e := tuple.Encode(item)
	same(t, "Encode of "+short(item), e, api.OK)
	sameBytes(t, "Encode of "+short(item), b, raw(t, want))
	l, e := tuple.Decode(raw(t, "12"+want+"17"+want+"00"))
	same(t, "Decode of "+want, e, api.OK)
	sameItems(t, "Decode of "+want, l, row(yes, item, list(item)))
}

// P2.2
func TestFloatsAsBytes(t *testing.T) {
	for n, want := range map[uint64]string{
		0x0000000000000000: "80 00 00 00 00 00 00 00",
		0x8000000000000000: "7F FF FF FF FF FF FF FF",
		0x3ff0000000000000: "BF F0 00 00 00 00 00 00",
		0xbff0000000000000: "40 0F FF FF FF FF FF FF",
		0x0000000000000001: "80 00 00 00 00 00 00 01",
		0x8000000000000001: "7F FF FF FF FF FF FF FE",
		0x000fffffffffffff: "80 0F FF FF FF FF FF FF",
		0x0010000000000000: "80 10 00 00 00 00 00 00",
		0x7fefffffffffffff: "FF EF FF FF FF FF FF FF",
		0xffefffffffffffff: "00 10 00 00 00 00 00 00",
		0x7ff0000000000000: "FF F0 00 00 00 00 00 00",
		0xfff0000000000000: "00 0F FF FF FF FF FF FF",
		0x7ff0000000000001: "FF F0 00 00 00 00 00 01",
		0x7ff8000000000001: "FF F8 00 00 00 00 00 01",
		0xfff8000000000001: "00 07 FF FF FF FF FF FE",
		0x7fffffffffffffff: "FF FF FF FF FF FF FF FF",
		0xffffffffffffffff: "00 00 00 00 00 00 00 00",
	} {
		sameForm(t, bits(n), "14 "+want)
	}
}

// P2.2
func TestDecodeRefuses(t *testing.T) {
	for _, c := range []string{
		"13 81 00", "13 81", "20", "17 10", // the chapter's
		"00", "0F", "18", "FF", "80", "10 00", "12 18", "17 00 00", "17 18 00", // first bytes that are no kind's
		"13", "13 82 01", "13 7E", "13 7D FE", "13 88 01 02 03 04 05 06 07", "13 77 80 00 00 00 00 00 00", // too few
		"14", "14 80", "14 80 00 00 00 00 00 00",
		"15", "15 61", "15 61 00", "15 61 00 FF", "16", "16 61", "16 61 00", "16 00", // no end
		"15 61 00 02", "15 61 00 00", "16 61 00 02 00 01", "15 00 FE 00 01", "15 00 61 00 01", // no form
		"13 82 00 FF", "13 82 00 00", "13 83 00 01 00", "13 88 00 FF FF FF FF FF FF FF", "13 88 00 00 00 00 00 00 00 00", // more bytes than needed
		"13 7E FF", "13 7D FF 00", "13 7D FF FF", "13 77 FF 00 00 00 00 00 00 00", "13 77 FF FF FF FF FF FF FF FF",
		"13 88 80 00 00 00 00 00 00 00", "13 88 FF FF FF FF FF FF FF FF", "13 77 7F FF FF FF FF FF FF FF", "13 77 00 00 00 00 00 00 00 00", // beyond 64 bits
		"13 89 01 00 00 00 00 00 00 00 00", "13 76 FE FF FF FF FF FF FF FF FF", "13 FF", "13 00", "13 FF" + strings.Repeat("01", 127), "13 00" + strings.Repeat("01", 127), "13 90" + strings.Repeat("01", 16),
		"17", "17 17 00", "17 10 17 10 00", "17 13 80", "17 15 61 00 01", // no end of a List
		strings.Repeat("17", 16), strings.Repeat("17", 16) + strings.Repeat("00", 15), strings.Repeat("17", 16) + strings.Repeat("00", 17),
	} {
		for _, ahead := range []string{"", "10", "13 80", "17 00"} {
			l, e := tuple.Decode(raw(t, ahead+c))
			same(t, "Decode of "+ahead+" "+c, e, api.ErrTuple)
			same(t, "items of "+ahead+" "+c, len(l), 0)
		}
	}
	for _, text := range wrongTexts() {
		form := hex.EncodeToString([]byte(text)) + "0001"
		_, e := tuple.Decode(raw(t, "16"+form))
		same(t, "Decode of a Text "+form, e, api.ErrTuple)
		l, e := tuple.Decode(raw(t, "15"+form))
		same(t, "Decode of Bytes "+form, e, api.OK)
		sameItems(t, "Decode of Bytes "+form, l, row(bin(text)))
	}
	for _, text := range rightTexts() {
		b, _ := tuple.Encode(txt(text))
		l, e := tuple.Decode(b)
		same(t, fmt.Sprintf("Decode of % X", b), e, api.OK)
		sameItems(t, fmt.Sprintf("Decode of % X", b), l, row(txt(text)))
	}
}

// P2.2: where there are too many items, and which error comes first.
func TestDecodeTellsTheFirstError(t *testing.T) {
	nulls := strings.Repeat("10", 64)
	deep := strings.Repeat("17", 16)
	for _, c := range []struct {
		b string
		e api.Errno
	}{
		{nulls, api.OK},
		{nulls + "10", api.ErrItems},
		{nulls + "13", api.ErrItems},    // what stands behind the first byte is not looked at
		{nulls + "16 FF", api.ErrItems}, //
		{nulls + "10 18", api.ErrItems},
		{nulls + "18", api.ErrTuple},
		{nulls + "00", api.ErrTuple},
		{nulls + "0F", api.ErrTuple},
		{strings.Repeat("10", 63) + "18 10 10", api.ErrTuple},
		{strings.Repeat("10", 63) + "13 81 00 10", api.ErrTuple},
		{strings.Repeat("10", 63) + "17 10", api.ErrTuple},
		{"17" + nulls + "00", api.OK},
		{"17" + nulls + "00 10", api.OK},
		{"17" + nulls, api.ErrTuple},
		{"17" + nulls + "10", api.ErrItems},
		{"17" + nulls + "10 00", api.ErrItems},
		{"17" + nulls + "17", api.ErrItems},
		{"17" + nulls + "18", api.ErrTuple},
		{"17" + nulls + "0F", api.ErrTuple},
		{"17 10 18" + nulls, api.ErrTuple},
		{strings.Repeat("17"+nulls+"00", 64), api.OK},
		{strings.Repeat("17"+nulls+"00", 64) + "17", api.ErrItems},
		{strings.Repeat("17"+nulls+"00", 64) + "18", api.ErrTuple},
		{deep + strings.Repeat("00", 16), api.OK},
		{deep + nulls + strings.Repeat("00", 16), api.OK},
		{deep + "17", api.ErrItems},
		{deep + "17 00", api.ErrItems},
		{deep + "17" + strings.Repeat("00", 17), api.ErrItems},
		{deep + "10 17", api.ErrItems},
		{deep + "18 17", api.ErrTuple},
		{deep + "00 17 17", api.ErrItems},
		{deep + "00 17 00" + strings.Repeat("00", 15), api.OK},
		{deep + "13 81 00 17", api.ErrTuple},
		{"13 81 00" + nulls + "10", api.ErrTuple},
		{nulls + "10 13 81 00", api.ErrItems},
	} {
		l, e := tuple.Decode(raw(t, c.b))
		same(t, "Decode of "+c.b, e, c.e)
		if c.e != api.OK {
			same(t, "items of "+c.b, len(l), 0)
		}
	}
}

// P2.2: exactly 65536 bytes and one more.
func TestMostBytes(t *testing.T) {
	for _, c := range []struct {
		what string
		of   func(n int) []api.Item // a tuple of n bytes
	}{
		{"Bytes", func(n int) []api.Item { return row(bin(strings.Repeat("a", n-3))) }},
		{"a Text", func(n int) []api.Item { return row(txt(strings.Repeat("a", n-3))) }},
		{"zeros, each in two bytes", func(n int) []api.Item {
			return row(bin(strings.Repeat("\x00", 30000)), bin(strings.Repeat("b", n-60006)))
		}},
		{"a Text in Lists", func(n int) []api.Item { return row(list(list(txt(strings.Repeat("a", n-7))))) }},
		{"Ints behind Bytes", func(n int) []api.Item { return append(row(bin(strings.Repeat("a", n-3-63*3))), many(63, num(1))...) }},
		{"Nulls ahead of Bytes", func(n int) []api.Item { return append(many(60, null), bin(strings.Repeat("a", n-63))) }},
		{"a List without items behind Bytes", func(n int) []api.Item { return row(bin(strings.Repeat("a", n-5)), list()) }},
		{"a Float behind Bytes", func(n int) []api.Item { return row(bin(strings.Repeat("a", n-12)), bits(0)) }},
	} {
		b, e := tuple.Encode(c.of(65536)...)
		same(t, "Encode of "+c.what, e, api.OK)
		same(t, "bytes of "+c.what, len(b), 65536)
		l, e := tuple.Decode(b)
		same(t, "Decode of "+c.what, e, api.OK)
		sameItems(t, "Decode of "+c.what, l, c.of(65536))
		for _, n := range []int{65537, 65538, 70000, 1 << 20} {
			b, e = tuple.Encode(c.of(n)...)
			same(t, fmt.Sprintf("Encode of %s, %d bytes", c.what, n), e, api.ErrLong)
			same(t, "bytes of "+c.what, len(b), 0)
		}
	}
	l, e := tuple.Decode(append([]byte{0x15}, append(bytes.Repeat([]byte{'a'}, 65534), 0, 1)...))
	same(t, "Decode of 65537 bytes", e, api.ErrLong)
	same(t, "its items", len(l), 0)
	_, e = tuple.Decode(bytes.Repeat([]byte{0x18}, 65537))
	same(t, "Decode of 65537 wrong bytes", e, api.ErrLong)
	_, e = tuple.Decode(bytes.Repeat([]byte{0x10}, 65537))
	same(t, "Decode of 65537 items", e, api.ErrLong)
	_, e = tuple.Decode(bytes.Repeat([]byte{0x18}, 65536))
	same(t, "Decode of 65536 wrong bytes", e, api.ErrTuple)
	_, e = tuple.Decode(bytes.Repeat([]byte{0x10}, 65536))
	same(t, "Decode of 65536 items", e, api.ErrItems)
}

// P2.2: Check's error comes ahead of ErrLong, wherever it stands.
func TestCheckComesAheadOfLong(t *testing.T) {
	long := txt(strings.Repeat("a", 70000))
	for _, c := range []struct {
		l []api.Item
		e api.Errno
	}{
		{row(long, api.Item{Kind: 8}), api.ErrItem},
		{row(long, list(txt("\xff"))), api.ErrItem},
		{row(txt(long.Text + "\xff")), api.ErrItem},
		{row(long, nested(17)), api.ErrItems},
		{append(many(64, null), long), api.ErrItems},
		{row(long, long), api.ErrLong},
	} {
		_, e := tuple.Encode(c.l...)
		same(t, "Encode of "+short(c.l), e, c.e)
		_, e = tuple.Print(c.l)
		same(t, "Print of "+short(c.l), e, c.e)
	}
}

// P2.6, P0.5: there and back.
func TestBytesAreReadBack(t *testing.T) {
	r := chance()
	for range 20000 {
		l := someItems(r, 4)
		b, e := tuple.Encode(l...)
		same(t, "Encode", e, api.OK)
		back, e := tuple.Decode(b)
		same(t, "Decode", e, api.OK)
		sameItems(t, "Decode of "+short(b), back, l)
	}
}

// P2.6: what Decode takes Encode writes just so. (Bytes that are nearly a tuple's: one of them is another, is wanting, or stands twice.)
func TestWhatIsTakenIsWrittenSo(t *testing.T) {
	r := chance()
	taken := 0
	for range 200000 {
		b, _ := tuple.Encode(someItems(r, 3)...)
		if len(b) == 0 {
			continue
		}
		at := r.Intn(len(b))
		switch r.Intn(3) {
		case 0:
			b[at] = byte(r.Intn(256))
		case 1:
			b = slices.Delete(b, at, at+1)
		case 2:
			b = slices.Insert(b, at, b[at])
		}
		l, e := tuple.Decode(b)
		if e != api.OK {
			continue
		}
		taken++
		again, e := tuple.Encode(l...)
		same(t, "Encode of what is taken of "+short(b), e, api.OK)
		sameBytes(t, "Encode of what is taken", again, b)
	}
	if taken < 10000 {
		t.Error("only", taken, "were taken: too few to tell")
	}
}
