package query_test

import (
	"fmt"
	"math"
	"math/big"
	"math/rand"
	"strings"
	"testing"

	"espalier/api"
	"espalier/tuple"
)

// said is the item that a literal says, as a plan tells its bytes.
func said(t *testing.T, text string) api.Item {
	t.Helper()
	l, e := tuple.Decode(ask(t, "where key = "+text).Plan(nil).Lo)
	if e != api.OK || len(l) != 1 {
		t.Fatalf("what %.300q says: %v, %d", text, l, e)
	}
	return l[0]
}

// says holds the Float that a decimal word says, and the same below 0.
func says(t *testing.T, text string, want float64) {
	t.Helper()
	same(t, fmt.Sprintf("what %.300q says", text), fmt.Sprint(said(t, text)), fmt.Sprint(float(want)))
	same(t, fmt.Sprintf("what %.300q says", "-"+text), fmt.Sprint(said(t, "-"+text)), fmt.Sprint(float(math.Copysign(want, -1))))
}

// power is 2 to that power.
func power(n int) *big.Rat {
	x := new(big.Rat).SetInt(new(big.Int).Lsh(big.NewInt(1), uint(max(n, -n))))
	if n < 0 {
		x.Inv(x)
	}
	return x
}

func sum(l ...*big.Rat) *big.Rat {
	x := new(big.Rat)
	for _, y := range l {
		x.Add(x, y)
	}
	return x
}

// digits is a number as a decimal word, with all its digits: it must have no more than 1100 behind the point.
func digits(x *big.Rat) string {
	s := strings.TrimRight(x.FloatString(1100), "0")
	if strings.HasSuffix(s, ".") {
		s += "0"
	}
	return s
}

// P20.1: a decimal word is the Float nearest to what its digits say; of two as near the one whose lowest bit is 0.
func TestDecimals(t *testing.T) {
	for text, want := range map[string]float64{
		"0.0": 0, "00.00": 0, "1.0": 1, "0001.0000": 1, "0.1": 0.1, "0.5": 0.5, "1.5": 1.5, "2.5": 2.5, "123456789.125": 123456789.125, "0.3": 0.3, "3.141592653589793": math.Pi,
		"9007199254740992.0": 1 << 53, "9007199254740993.0": 1 << 53, "9007199254740993.00000000000000000001": 1<<53 + 2, "9007199254740994.0": 1<<53 + 2, "9007199254740995.0": 1<<53 + 4, "9007199254740994.99999999999999999": 1<<53 + 2,
		strings.Repeat("9", 400) + ".0": math.Inf(1), strings.Repeat("0", 3000) + "1.0": 1, "0." + strings.Repeat("0", 3000) + "1": 0, "1." + strings.Repeat("0", 3000) + "1": 1,
	} {
		says(t, text, want)
	}
	greatest := sum(power(1024), new(big.Rat).Neg(power(971)))
	border := sum(power(1024), new(big.Rat).Neg(power(970)))
	says(t, digits(greatest), math.MaxFloat64)
	says(t, digits(border), math.Inf(1))
	says(t, digits(sum(border, power(-900))), math.Inf(1))
	says(t, digits(sum(border, new(big.Rat).Neg(power(-900)))), math.MaxFloat64)
	says(t, digits(power(1024)), math.Inf(1))
	says(t, digits(power(-1074)), math.SmallestNonzeroFloat64)
	says(t, digits(power(-1075)), 0)
	says(t, digits(power(-1075))+"1", math.SmallestNonzeroFloat64)
	says(t, digits(sum(power(-1074), power(-1075))), 2*math.SmallestNonzeroFloat64)
	says(t, digits(sum(power(-1022), new(big.Rat).Neg(power(-1074)))), math.Float64frombits(1<<52-1))
	says(t, digits(power(-1022)), math.Float64frombits(1<<52))
}

// P20.1: drawn decimal words, and such as lie between two Floats, beside what exact numbers say.
func TestDrawnDecimals(t *testing.T) {
	t.Parallel()
	r := chance()
	for range 3000 {
		text := drawnDigits(r, 1+r.Intn(30)) + "." + drawnDigits(r, 1+r.Intn(30))
		if r.Intn(3) == 0 {
			f := math.Float64frombits(uint64(r.Int63()) % (0x7ff << 52))
			if f < 1e-150 || f > 1e300 {
				continue
			}
			x := new(big.Rat).SetFloat64(f)
			y := new(big.Rat).SetFloat64(math.Nextafter(f, math.Inf(1)))
			text = digits(new(big.Rat).Mul(sum(x, y), big.NewRat(1, 2)))
			text += []string{"", "1", "0"}[r.Intn(3)]
		}
		x, _ := new(big.Rat).SetString(text)
		want, _ := x.Float64()
		says(t, text, want)
		stop(t)
	}
}

func drawnDigits(r *rand.Rand, n int) string {
	s := ""
	for range n {
		s += string(rune('0' + r.Intn(10)))
	}
	return s
}

// P20.1: other literals are the item that tuple.Parse reads.
func TestLiterals(t *testing.T) {
	for text, want := range map[string]api.Item{
		"0": num(0), "-1": num(-1), "9223372036854775807": num(math.MaxInt64), "-9223372036854775808": num(math.MinInt64), "true": truth(true), "false": truth(false), "inf": float(math.Inf(1)), "-inf": float(math.Inf(-1)),
		"0x1.8p+00": float(1.5), "nan:7ff8000000000001": bitsOf(0x7ff8000000000001), "nan:fff0000000000001": bitsOf(0xfff0000000000001), "x''": bin(""), "x'00ff'": bin("\x00\xff"), `""`: word(""), `"é\x00\"\\"`: word("é\x00\"\\"), `" "`: word(" "),
	} {
		same(t, "what "+text+" says", fmt.Sprint(said(t, text)), fmt.Sprint(want))
	}
	for _, x := range literals() {
		same(t, "what "+x.source+" says", fmt.Sprint(said(t, x.source)), fmt.Sprint(x.item))
	}
}
