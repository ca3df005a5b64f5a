package ink_test

import (
	"bytes"
	"fmt"
	"testing"

	"espalier/ink"
)

// byRule is the check sum as the document tells it, bit by bit.
func byRule(b []byte) uint32 {
	register := ^uint32(0)
	for _, c := range b {
		register ^= uint32(c)
		for range 8 {
			out := register & 1
			register >>= 1
			if out == 1 {
				register ^= 0x82F63B78
			}
		}
	}
	return ^register
}

// P1.9
func TestSum(t *testing.T) {
	for _, c := range []struct {
		parts []string
		want  uint32
	}{
		{nil, 0},
		{[]string{""}, 0},
		{[]string{"", "", ""}, 0},
		{[]string{"a"}, 0xC1D04330},
		{[]string{"123456789"}, 0xE3069283},
		{[]string{"1234", "", "56789"}, 0xE3069283},
		{[]string{"", "1", "2345678", "9", ""}, 0xE3069283},
	} {
		var parts [][]byte
		for _, part := range c.parts {
			parts = append(parts, []byte(part))
		}
		same(t, fmt.Sprintf("Sum(%q)", c.parts), ink.Sum(parts...), c.want)
	}
	same(t, "Sum(nil)", ink.Sum(nil), 0)
}

// P1.9
func TestSumFollowsItsRule(t *testing.T) {
	for c := range 256 {
		b := []byte{byte(c)}
		same(t, fmt.Sprintf("Sum(%02X)", c), ink.Sum(b), byRule(b))
		for place := range 4 {
			b := make([]byte, 4)
			b[place] = byte(c)
			same(t, fmt.Sprintf("Sum(% X)", b), ink.Sum(b), byRule(b))
		}
	}
	r := chance()
	for n := range 600 {
		b := someBytes(r, n)
		same(t, fmt.Sprint("Sum of bytes: ", n), ink.Sum(b), byRule(b))
	}
}

// P1.9: how the bytes are cut into parts doesn't matter.
func TestSumOfParts(t *testing.T) {
	b := someBytes(chance(), 23)
	want := ink.Sum(b)
	for i := range len(b) + 1 {
		for j := i; j <= len(b); j++ {
			same(t, fmt.Sprint("cut at ", i, j), ink.Sum(b[:i], b[i:j], nil, b[j:]), want)
		}
	}
	var single [][]byte
	for i := range b {
		single = append(single, b[i:i+1])
	}
	same(t, "byte by byte", ink.Sum(single...), want)
	same(t, "parts in another order", ink.Sum(b[9:], b[:9]) == want, false)
}

// P1.9: what differs within 32 neighbouring bits has another sum.
func TestSumTellsNeighbours(t *testing.T) {
	r := chance()
	for n := 1; n <= 24; n++ {
		b := someBytes(r, n)
		sum := ink.Sum(b)
		for first := range 8 * n {
			for _, bits := range []uint32{1, 3, 1 << 31, 0x80000001, 0x82F63B78, 0xFFFFFFFF, r.Uint32()} {
				other := turned(b, first, bits)
				if !bytes.Equal(b, other) && ink.Sum(other) == sum {
					t.Errorf("% X and % X have one sum", b, other)
				}
			}
		}
	}
}

// turned has those bits of b turned that bits names, from the place first on, in each byte from its lowest bit.
func turned(b []byte, first int, bits uint32) []byte {
	out := bytes.Clone(b)
	for i := range 32 {
		if place := first + i; bits>>i&1 == 1 && place < 8*len(b) {
			out[place/8] ^= 1 << (place % 8)
		}
	}
	return out
}

func BenchmarkSum(b *testing.B) {
	page := someBytes(chance(), 4096)
	b.SetBytes(int64(len(page)))
	for b.Loop() {
		ink.Sum(page)
	}
}
