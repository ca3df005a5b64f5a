package tuple_test

import (
	"bytes"
	"encoding/hex"
	"fmt"
	"math"
	"math/rand"
	"strings"
	"testing"

	"espalier/api"
)

var (
	null = api.Item{Kind: api.Null}
	no   = api.Item{Kind: api.False}
	yes  = api.Item{Kind: api.True}
)

func num(n int64) api.Item { return api.Item{Kind: api.Int, Num: n} }

func bits(n uint64) api.Item { return api.Item{Kind: api.Float, Num: int64(n)} }

func float(f float64) api.Item { return bits(math.Float64bits(f)) }

func bin(s string) api.Item { return api.Item{Kind: api.Bytes, Text: s} }

func txt(s string) api.Item { return api.Item{Kind: api.Text, Text: s} }

func list(l ...api.Item) api.Item { return api.Item{Kind: api.List, List: l} }

func row(l ...api.Item) []api.Item { return l }

func many(n int, item api.Item) []api.Item {
	var l []api.Item
	for range n {
		l = append(l, item)
	}
	return l
}

// nested puts that many Lists about the items.
func nested(n int, inside ...api.Item) api.Item {
	item := list(inside...)
	for range n - 1 {
		item = list(item)
	}
	return item
}

// raw reads bytes as the document writes them: hexadecimal, with spaces between.
func raw(t *testing.T, text string) []byte {
	t.Helper()
	b, err := hex.DecodeString(strings.ReplaceAll(text, " ", ""))
	if err != nil {
		t.Fatal(err)
	}
	return b
}

func short(what any) string {
	text := fmt.Sprintf("%+v", what)
	if b, ok := what.([]byte); ok {
		text = fmt.Sprintf("% X", b)
	}
	if len(text) > 200 {
		return text[:200] + fmt.Sprintf(".. (%d bytes)", len(text))
	}
	return text
}

func sameBytes(t *testing.T, what string, got, want []byte) {
	t.Helper()
	if !bytes.Equal(got, want) {
		t.Errorf("%s: %s, want %s", short(what), short(got), short(want))
	}
}

func same[T comparable](t *testing.T, what string, got, want T) {
	t.Helper()
	if got != want {
		t.Errorf("%s: %s, want %s", short(what), short(got), short(want))
	}
}

func sameItems(t *testing.T, what string, got, want []api.Item) {
	t.Helper()
	if !alike(got, want) {
		t.Errorf("%s: %s, want %s", short(what), short(got), short(want))
	}
}

// alike holds every field of all items against each other; nil is an empty list.
func alike(a, b []api.Item) bool {
	if len(a) != len(b) {
		return false
	}
	for i := range a {
		if a[i].Kind != b[i].Kind || a[i].Num != b[i].Num || a[i].Text != b[i].Text || !alike(a[i].List, b[i].List) {
			return false
		}
	}
	return true
}

// chance is the same row of numbers in every run.
func chance() *rand.Rand { return rand.New(rand.NewSource(1)) }

// someItem is any item; its Lists reach at most to that depth.
func someItem(r *rand.Rand, depth int) api.Item {
	switch r.Intn(9) {
	case 0:
		return []api.Item{null, no, yes}[r.Intn(3)]
	case 1, 2:
		return num(int64(r.Uint64()) >> r.Intn(64))
	case 3:
		return bits(r.Uint64())
	case 4:
		return bits(uint64(r.Intn(4)) << 62 >> r.Intn(64))
	case 5:
		b := make([]byte, r.Intn(6))
		for i := range b {
			b[i] = "\x00\x00\x01\x61\xfe\xff"[r.Intn(6)]
		}
		return bin(string(b))
	case 6:
		text := ""
		for range r.Intn(6) {
			text += string([]rune{0, 1, 0x1f, ' ', '"', '\\', '\'', 'x', ']', 0x7f, 0x80, 0xe9, 0x7ff, 0x800, 0xfffd, 0xffff, 0x10000, 0x10ffff}[r.Intn(18)])
		}
		return txt(text)
	}
	if depth == 0 {
		return null
	}
	return list(someItems(r, depth-1)...)
}

func someItems(r *rand.Rand, depth int) []api.Item {
	var l []api.Item
	for range r.Intn(4) {
		l = append(l, someItem(r, depth))
	}
	return l
}
