package tuple_test

import (
	"bytes"
	"slices"
	"strings"
	"testing"
	"unsafe"

	"espalier/api"
	"espalier/tuple"
)

const spare = 8

// mark stands in the spare room behind a list.
var mark = api.Item{Kind: 77, Num: 77, Text: "spare"}

// laid puts a list and those in it into memory of their own, with marked spare room behind each.
func laid(l []api.Item) []api.Item {
	out := make([]api.Item, 0, len(l)+spare)
	for _, item := range l {
		if item.Kind == api.List {
			item.List = laid(item.List)
		}
		out = append(out, item)
	}
	for range spare {
		out = append(out, mark)
	}
	return out[:len(l)]
}

func untouched(t *testing.T, what string, l, want []api.Item) {
	t.Helper()
	sameItems(t, what+": what was handed in", l, want)
	markedBehind(t, what, l)
}

func markedBehind(t *testing.T, what string, l []api.Item) {
	t.Helper()
	sameItems(t, what+": the spare room", l[len(l):len(l)+spare], many(spare, mark))
	for _, item := range l {
		if item.Kind == api.List {
			markedBehind(t, what, item.List)
		}
	}
}

func memorySample() []api.Item {
	return row(null, yes, num(300), float(1.5), bin("a\x00b"), txt("é\"\x01"), list(num(1), list(), list(txt("in"), list(bin("")))), list(), num(-7))
}

// R2: what is handed in stays, the spare room behind it too; Encode and Prefix get the list itself.
func TestItemsHandedInStay(t *testing.T) {
	sample := memorySample()
	for what, do := range map[string]func(l []api.Item){
		"Encode":  func(l []api.Item) { tuple.Encode(l...) },
		"Compare": func(l []api.Item) { tuple.Compare(l, l); tuple.Compare(l, sample); tuple.Compare(sample, l) },
		"Check":   func(l []api.Item) { tuple.Check(l) },
		"Prefix":  func(l []api.Item) { tuple.Prefix(l...) },
		"Print":   func(l []api.Item) { tuple.Print(l) },
	} {
		l := laid(sample)
		do(l)
		untouched(t, what, l, memorySample())
	}
}

// R2
func TestBytesHandedInStay(t *testing.T) {
	whole, _ := tuple.Encode(memorySample()...)
	for _, b := range [][]byte{whole, whole[:len(whole)-1], append(bytes.Clone(whole), 0x18), {0x15, 'a', 0, 1}, nil} {
		room := append(bytes.Clone(b), bytes.Repeat([]byte{0xa5}, spare)...)
		tuple.Decode(room[:len(b)])
		sameBytes(t, "what was handed in", room[:len(b)], b)
		sameBytes(t, "the spare room", room[len(b):], bytes.Repeat([]byte{0xa5}, spare))
	}
}

// overwriteItems writes over every item of a list, of those in it, and of their spare room.
func overwriteItems(l []api.Item) {
	l = l[:cap(l)]
	for i := range l {
		overwriteItems(l[i].List)
		l[i] = mark
	}
}

// R2: an answer shares no memory with what was handed in, nor with another answer, nor do two lists of one.
func TestItemsAnsweredAreNew(t *testing.T) {
	b, _ := tuple.Encode(memorySample()...)
	text, _ := tuple.Print(memorySample())
	for what, do := range map[string]func() []api.Item{
		"Decode": func() []api.Item { l, _ := tuple.Decode(b); return l },
		"Parse":  func() []api.Item { l, _, _ := tuple.Parse(text); return l },
	} {
		first, second := do(), do()
		overwriteItems(first)
		sameItems(t, what+": an answer, another being written over", second, memorySample())
		for i := range second {
			l := do()
			overwriteItems(l[i].List)
			l[i].List = memorySample()[i].List
			sameItems(t, what+": an answer, one of its Lists being written over", l, memorySample())
		}
		l := do()
		l[6].List = append(l[6].List, mark)
		l[7].List = append(l[7].List, mark)
		inner := l[6].List[2].List
		_ = append(inner, mark)
		sameItems(t, what+": the inner List, others having grown", inner, row(txt("in"), list(bin(""))))
		sameItems(t, what+": the answer, others having grown", l[:6], memorySample()[:6])
	}
	room := bytes.Clone(b)
	l, _ := tuple.Decode(room)
	for i := range room {
		room[i] = 0x5a
	}
	sameItems(t, "Decode: an answer, the bytes being written over", l, memorySample())
}

// R2: the texts of an answer lie outside of the text, or the bytes, that were handed in.
func TestTextsAnsweredAreNew(t *testing.T) {
	text := `"abcdef" x'616263' ["ghi"]`
	l, _, _ := tuple.Parse(text)
	for _, item := range append(slices.Clone(l), l[2].List...) {
		if item.Text != "" && within(item.Text, text) {
			t.Errorf("%q lies within the text that was handed in", item.Text)
		}
	}
	again, _, _ := tuple.Parse(text)
	if within(l[0].Text, again[0].Text) {
		t.Error("two answers share a text")
	}
}

func within(part, whole string) bool {
	at, from := uintptr(unsafe.Pointer(unsafe.StringData(part))), uintptr(unsafe.Pointer(unsafe.StringData(whole)))
	return at >= from && at < from+uintptr(len(whole))
}

// R2
func TestBytesAnsweredAreNew(t *testing.T) {
	want, _ := tuple.Encode(memorySample()...)
	l := laid(memorySample())
	first, _ := tuple.Encode(l...)
	second, _ := tuple.Encode(l...)
	lo, hi, _, _ := tuple.Prefix(l...)
	wantHi := bytes.Clone(hi)
	overwrite(first)
	sameBytes(t, "Encode's answer, another being written over", second, want)
	sameBytes(t, "lo, another answer being written over", lo, want)
	overwrite(lo)
	sameBytes(t, "hi, lo being written over", hi, wantHi)
	overwriteItems(l)
	sameBytes(t, "Encode's answer, the items being written over", second, want)
	again, _ := tuple.Encode(memorySample()...)
	sameBytes(t, "Encode of the same items anew", again, want)
}

func overwrite(b []byte) {
	b = b[:cap(b)]
	for i := range b {
		b[i] = 0x5a
	}
}

// R1: whatever comes, no call panics.
func TestAnyBytesAndTexts(t *testing.T) {
	r := chance()
	for range 100000 {
		b := make([]byte, r.Intn(20))
		for i := range b {
			b[i] = byte(r.Intn(256))
			if r.Intn(2) == 0 {
				b[i] = "\x00\x01\x10\x13\x14\x15\x16\x17\x7e\x7f\x80\x81\x88\x77\xff"[r.Intn(15)]
			}
		}
		tuple.Decode(b)
		text := strings.Map(func(c rune) rune { return rune(" []\"'\\x0189af-.:pinu+\xff\x00"[int(c)%22]) }, string(b))
		tuple.Parse(text)
		tuple.Parse(string(b))
	}
}
