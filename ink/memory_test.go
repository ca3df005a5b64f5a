package ink_test

import (
	"bytes"
	"testing"

	"espalier/ink"
)

// A call of ink's: texts go in, bytes come out (none, where it answers a number).
type call struct {
	name  string
	texts []string
	do    func(texts [][]byte) []byte
}

func calls() []call {
	return []call{
		{"Fixed", nil, func([][]byte) []byte { return ink.Fixed(0x0102030405060708, 5) }},
		{"Uint", nil, func([][]byte) []byte { return ink.Uint(300) }},
		{"ReadFixed", []string{"abcdefgh"}, func(l [][]byte) []byte { ink.ReadFixed(l[0], 1, 3); return nil }},
		{"ReadUint", []string{"\x05\xac\x02\x07"}, func(l [][]byte) []byte { ink.ReadUint(l[0], 1); return nil }},
		{"Ordered", []string{"a\x00b"}, func(l [][]byte) []byte { return ink.Ordered(l[0]) }},
		{"Ordered of no zeros", []string{"abc"}, func(l [][]byte) []byte { return ink.Ordered(l[0]) }},
		{"ReadOrdered", []string{"a\x00\xffb\x00\x01c"}, readOrdered},
		{"ReadOrdered of no zeros", []string{"abc\x00\x01"}, readOrdered},
		{"ReadOrdered that is refused", []string{"abc\x00\x02"}, readOrdered},
		{"Common", []string{"abc", "abd", "ab"}, func(l [][]byte) []byte { ink.Common(l...); return nil }},
		{"Between", []string{"abc", "abx"}, between},
		{"Between that cuts", []string{"ab", "abcd"}, between},
		{"Between that is refused", []string{"b", "a"}, between},
		{"Behind", []string{"ab"}, behind},
		{"Behind that cuts", []string{"a\xff\xff"}, behind},
		{"Behind that finds none", []string{"\xff"}, behind},
		{"Sum", []string{"1234", "", "56789"}, func(l [][]byte) []byte { ink.Sum(l...); return nil }},
	}
}

func readOrdered(l [][]byte) []byte { b, _, _ := ink.ReadOrdered(l[0], 0); return b }

func between(l [][]byte) []byte { b, _ := ink.Between(l[0], l[1]); return b }

func behind(l [][]byte) []byte { b, _ := ink.Behind(l[0]); return b }

const spare = 16

// laid puts each text into memory of its own, with spare room behind it, and the list too.
func laid(texts []string) [][]byte {
	list := make([][]byte, 0, len(texts)+spare)
	for _, text := range texts {
		b := append([]byte(text), bytes.Repeat([]byte{0xa5}, spare)...)
		list = append(list, b[:len(text)])
	}
	return list
}

func untouched(t *testing.T, list [][]byte, texts []string) {
	t.Helper()
	for i, text := range texts {
		whole := list[i][:len(text)+spare]
		sameBytes(t, "what was handed in, and its spare room", whole, append([]byte(text), bytes.Repeat([]byte{0xa5}, spare)...))
	}
	for _, b := range list[len(texts):cap(list)] {
		if b != nil {
			t.Error("the spare room of the list of texts is changed")
		}
	}
}

func overwrite(b []byte, c byte) {
	b = b[:cap(b)]
	for i := range b {
		b[i] = c
	}
}

// P1.10
func TestWhatIsHandedInStays(t *testing.T) {
	for _, c := range calls() {
		t.Run(c.name, func(t *testing.T) {
			list := laid(c.texts)
			got := c.do(list)
			untouched(t, list, c.texts)
			overwrite(got, 0x5a)
			untouched(t, list, c.texts)
		})
	}
}

// P1.10
func TestWhatIsAnsweredIsNew(t *testing.T) {
	for _, c := range calls() {
		t.Run(c.name, func(t *testing.T) {
			list := laid(c.texts)
			first, second := c.do(list), c.do(list)
			want := bytes.Clone(second)
			sameBytes(t, "the second of two answers", first, want)
			overwrite(first, 0x5a)
			sameBytes(t, "an answer, another being overwritten", second, want)
			for i := range list {
				overwrite(list[i], 0x5a)
			}
			sameBytes(t, "an answer, the arguments being overwritten", second, want)
			sameBytes(t, "the answer to the same texts anew", c.do(laid(c.texts)), want)
		})
	}
}

// P1.10: what a call answers hangs on its arguments alone.
func TestAnswersHangOnArgumentsAlone(t *testing.T) {
	b := []byte("abcd")
	sum, common := ink.Sum(b), ink.Common(b, []byte("abcx"))
	b[0] = 'z'
	same(t, "Sum of other bytes at the same place", ink.Sum(b) == sum, false)
	same(t, "Common of other bytes at the same place", ink.Common(b, []byte("abcx")), 0)
	b[0] = 'a'
	same(t, "Sum again", ink.Sum(b), sum)
	same(t, "Common again", ink.Common(b, []byte("abcx")), common)
}
