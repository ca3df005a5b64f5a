package ink_test

import (
	"fmt"
	"math"
	"testing"

	"espalier/api"
	"espalier/ink"
)

// P1.1
func TestFixed(t *testing.T) {
	for _, c := range []struct {
		n     uint64
		width int
		want  string
	}{
		{258, 2, "01 02"},
		{258, 1, "02"},
		{300, 4, "00 00 01 2C"},
		{0, 1, "00"},
		{0x0102030405060708, 1, "08"},
		{0x0102030405060708, 3, "06 07 08"},
		{0x0102030405060708, 7, "02 03 04 05 06 07 08"},
		{0x0102030405060708, 8, "01 02 03 04 05 06 07 08"},
		{math.MaxUint64, 8, "FF FF FF FF FF FF FF FF"},
		{5, 0, ""},
		{5, 9, ""},
		{5, -1, ""},
		{5, math.MaxInt, ""},
		{5, math.MinInt, ""},
	} {
		sameBytes(t, fmt.Sprintf("Fixed(%d, %d)", c.n, c.width), ink.Fixed(c.n, c.width), raw(t, c.want))
	}
}

// P1.1
func TestReadFixed(t *testing.T) {
	for _, c := range []struct {
		b         string
		at, width int
		n         uint64
		err       api.Errno
	}{
		{"01 02 03", 1, 2, 515, api.OK},
		{"01 02 03", 0, 2, 258, api.OK},
		{"01 02 03", 2, 1, 3, api.OK},
		{"01 02 03 04 05 06 07 08 09", 1, 8, 0x0203040506070809, api.OK},
		{"FF FF FF FF FF FF FF FF", 0, 8, math.MaxUint64, api.OK},
		{"01", 1, 1, 0, api.ErrShort},
		{"01 02 03", 2, 2, 0, api.ErrShort},
		{"01 02 03 04 05 06 07", 0, 8, 0, api.ErrShort},
		{"", 0, 1, 0, api.ErrShort},
		{"01", 2, 1, 0, api.ErrArg},
		{"01", -1, 1, 0, api.ErrArg},
		{"01", math.MaxInt, 8, 0, api.ErrArg},
		{"01", math.MinInt, 8, 0, api.ErrArg},
		{"01", 0, 0, 0, api.ErrArg},
		{"01", 0, -1, 0, api.ErrArg},
		{"01", 0, math.MinInt, 0, api.ErrArg},
		{"01", 0, math.MaxInt, 0, api.ErrArg},
		{"01 02 03 04 05 06 07 08 09", 0, 9, 0, api.ErrArg},
		{"01", 1, 9, 0, api.ErrArg},
		{"01", 1, 0, 0, api.ErrArg},
	} {
		n, err := ink.ReadFixed(raw(t, c.b), c.at, c.width)
		what := fmt.Sprintf("ReadFixed(%s, %d, %d)", c.b, c.at, c.width)
		same(t, what, n, c.n)
		same(t, what, err, c.err)
	}
}

// P1.1, P0.5
func TestFixedIsReadBack(t *testing.T) {
	r := chance()
	for width := 1; width <= 8; width++ {
		for range 100 {
			n := r.Uint64()
			b := append(append([]byte{9, 9}, ink.Fixed(n, width)...), 9)
			got, err := ink.ReadFixed(b, 2, width)
			same(t, "error", err, api.OK)
			same(t, fmt.Sprint("number in ", width), got, n<<(64-8*width)>>(64-8*width))
		}
	}
}

// P1.2
func TestUint(t *testing.T) {
	for _, c := range []struct {
		n    uint64
		want string
	}{
		{0, "00"},
		{1, "01"},
		{127, "7F"},
		{128, "80 01"},
		{300, "AC 02"},
		{16383, "FF 7F"},
		{16384, "80 80 01"},
		{1<<63 - 1, "FF FF FF FF FF FF FF FF 7F"},
		{1 << 63, "80 80 80 80 80 80 80 80 80 01"},
		{math.MaxUint64, "FF FF FF FF FF FF FF FF FF 01"},
	} {
		sameBytes(t, fmt.Sprintf("Uint(%d)", c.n), ink.Uint(c.n), raw(t, c.want))
	}
}

// P1.3
func TestReadUint(t *testing.T) {
	const nine = "FF FF FF FF FF FF FF FF FF "
	const zeros = "80 80 80 80 80 80 80 80 80 "
	for _, c := range []struct {
		b    string
		at   int
		n    uint64
		next int
		err  api.Errno
	}{
		{"05 AC 02 07", 1, 300, 3, api.OK},
		{"05 AC 02 07", 0, 5, 1, api.OK},
		{"05 AC 02 07", 2, 2, 3, api.OK},
		{"05 AC 02 07", 3, 7, 4, api.OK},
		{"00", 0, 0, 1, api.OK},
		{"80 80 00 00", 3, 0, 4, api.OK},
		{nine + "01", 0, math.MaxUint64, 10, api.OK},
		{zeros + "01", 0, 1 << 63, 10, api.OK},
		{"07 " + nine + "01 FF", 1, math.MaxUint64, 11, api.OK},
		{"AC", 0, 0, 0, api.ErrShort},
		{"", 0, 0, 0, api.ErrShort},
		{"00", 1, 0, 0, api.ErrShort},
		{nine, 0, 0, 0, api.ErrShort},
		{"05 AC", 1, 0, 0, api.ErrShort},
		{"80 00", 0, 0, 0, api.ErrForm},
		{"81 00", 0, 0, 0, api.ErrForm},
		{"07 80 00", 1, 0, 0, api.ErrForm},
		{"80 80 00", 0, 0, 0, api.ErrForm},
		{nine + "00", 0, 0, 0, api.ErrForm},
		{nine + "02", 0, 0, 0, api.ErrBig},
		{zeros + "02", 0, 0, 0, api.ErrBig},
		{nine + "7F", 0, 0, 0, api.ErrBig},
		{nine + "80", 0, 0, 0, api.ErrBig},
		{nine + "81", 0, 0, 0, api.ErrBig},
		{nine + "80 00", 0, 0, 0, api.ErrBig},
		{nine + "81 01", 0, 0, 0, api.ErrBig},
		{"07 " + nine + "02", 1, 0, 0, api.ErrBig},
		{"07 " + nine + "00", 1, 0, 0, api.ErrForm},
		{nine + nine + nine, 0, 0, 0, api.ErrBig},
		{"00", 2, 0, 0, api.ErrArg},
		{"00", -1, 0, 0, api.ErrArg},
		{"", 1, 0, 0, api.ErrArg},
		{"00", math.MaxInt, 0, 0, api.ErrArg},
		{"00", math.MinInt, 0, 0, api.ErrArg},
	} {
		n, next, err := ink.ReadUint(raw(t, c.b), c.at)
		what := fmt.Sprintf("ReadUint(%s, %d)", c.b, c.at)
		same(t, what, n, c.n)
		same(t, what, next, c.next)
		same(t, what, err, c.err)
	}
}

// P1.2, P1.3, P0.5
func TestUintIsReadBack(t *testing.T) {
	r := chance()
	for bits := 1; bits <= 64; bits++ {
		for _, n := range []uint64{1 << (bits - 1), 1<<bits - 1, r.Uint64() >> (64 - bits)} {
			b := ink.Uint(n)
			same(t, fmt.Sprintf("length of Uint(%d)", n), len(b), groups(n))
			got, next, err := ink.ReadUint(append(append([]byte{0x80}, b...), 0x80), 1)
			same(t, fmt.Sprintf("ReadUint of Uint(%d)", n), got, n)
			same(t, "place behind", next, 1+len(b))
			same(t, "error", err, api.OK)
		}
	}
}

func groups(n uint64) int {
	count := 1
	for n > 127 {
		n /= 128
		count++
	}
	return count
}

// P1.3: just what Uint writes is read.
func TestReadUintTakesOnlyWhatUintWrites(t *testing.T) {
	for _, b := range shortTexts("\x00\x01\x7f\x80\x81\xff", 5) {
		n, next, err := ink.ReadUint(b, 0)
		if err == api.OK {
			sameBytes(t, "what was read, written again", ink.Uint(n), b[:next])
		} else if n != 0 || next != 0 {
			t.Errorf("ReadUint(% X): %d, %d beside error %d", b, n, next, err)
		}
	}
}
