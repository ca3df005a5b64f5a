package tuple_test

import (
	"fmt"
	"math"
	"math/big"
	"slices"
	"strings"
	"testing"

	"espalier/api"
	"espalier/tuple"
)

// P2.5: both ways.
func TestFormsAsText(t *testing.T) {
	for _, c := range examples() {
		printed(t, c.l, c.text)
	}
}

// printed writes a tuple as this text, and reads it from it.
func printed(t *testing.T, l []api.Item, want string) {
	t.Helper()
	text, e := tuple.Print(l)
	same(t, "Print of "+short(l), e, api.OK)
	same(t, "Print of "+short(l), text, want)
	parsed(t, want, l)
}

func parsed(t *testing.T, text string, want []api.Item) {
	t.Helper()
	l, at, e := tuple.Parse(text)
	same(t, "Parse of "+text, e, api.OK)
	same(t, "place of Parse of "+text, at, 0)
	sameItems(t, "Parse of "+text, l, want)
}

func refused(t *testing.T, text string, at int, e api.Errno) {
	t.Helper()
	l, place, err := tuple.Parse(text)
	same(t, "Parse of "+text, err, e)
	same(t, "place of Parse of "+text, place, at)
	same(t, "items of Parse of "+text, len(l), 0)
}

// P2.5
func TestIntsAsText(t *testing.T) {
	for _, n := range risingInts() {
		printed(t, row(num(n)), big.NewInt(n).String())
	}
	printed(t, row(num(math.MinInt64), num(math.MaxInt64)), "-9223372036854775808 9223372036854775807")
}

// P2.5
func TestFloatsAsText(t *testing.T) {
	for n, want := range map[uint64]string{
		0x0000000000000000: "0x0p+00",
		0x8000000000000000: "-0x0p+00",
		0x3ff0000000000000: "0x1p+00",
		0xbff0000000000000: "-0x1p+00",
		0x3fe0000000000000: "0x1p-01",
		0x3ff8000000000000: "0x1.8p+00",
		0x3ff0000000000001: "0x1.0000000000001p+00",
		0x3ffabcdef0123450: "0x1.abcdef012345p+00",
		0x4340000000000000: "0x1p+53",
		0x4630000000000000: "0x1p+100",
		0x39b0000000000000: "0x1p-100",
		0x4620000000000000: "0x1p+99",
		0x4000000000000000: "0x1p+01",
		0xc090000000000000: "-0x1p+10",
		0x0000000000000001: "0x1p-1074",
		0x8000000000000001: "-0x1p-1074",
		0x0000000000000003: "0x1.8p-1073",
		0x0008000000000000: "0x1p-1023",
		0x000fffffffffffff: "0x1.ffffffffffffep-1023",
		0x0010000000000000: "0x1p-1022",
		0x8010000000000000: "-0x1p-1022",
		0x7fefffffffffffff: "0x1.fffffffffffffp+1023",
		0xffefffffffffffff: "-0x1.fffffffffffffp+1023",
		0x7ff0000000000000: "inf",
		0xfff0000000000000: "-inf",
		0x7ff0000000000001: "nan:7ff0000000000001",
		0x7ff8000000000000: "nan:7ff8000000000000",
		0x7ff8000000000001: "nan:7ff8000000000001",
		0x7fffffffffffffff: "nan:7fffffffffffffff",
		0xfff0000000000001: "nan:fff0000000000001",
		0xfff8000000000000: "nan:fff8000000000000",
		0xffffffffffffffff: "nan:ffffffffffffffff",
	} {
		printed(t, row(bits(n), list(bits(n))), want+" ["+want+"]")
	}
}

// floatText writes a float that is neither zero nor infinite nor a NaN by the document's rule, bit by bit.
func floatText(n uint64) string {
	sign, e, f := "", int(n>>52&0x7ff)-1023, n<<12
	if n>>63 == 1 {
		sign = "-"
	}
	if e == -1023 {
		for e = -1022; ; {
			out := f >> 63
			f <<= 1
			e--
			if out == 1 {
				break
			}
		}
	}
	places := strings.TrimRight(fmt.Sprintf("%016x", f), "0")
	if places != "" {
		places = "." + places
	}
	return fmt.Sprintf("%s0x1%sp%+03d", sign, places, e)
}

// P2.5: against the document's rule.
func TestFloatsByTheRule(t *testing.T) {
	r := chance()
	for range 20000 {
		n := r.Uint64()
		switch r.Intn(4) {
		case 0:
			n &= 1<<63 | 1<<uint(r.Intn(52)+1) - 1
		case 1:
			n &= ^uint64(0) << uint(r.Intn(64))
		}
		if n<<1 == 0 || n>>52&0x7ff == 0x7ff {
			continue
		}
		printed(t, row(bits(n)), floatText(n))
	}
}

// P2.5
func TestTextsAsText(t *testing.T) {
	for text, want := range map[string]string{
		"":                     `""`,
		"a b":                  `"a b"`,
		`"`:                    `"\""`,
		`\`:                    `"\\"`,
		`\x00`:                 `"\\x00"`,
		"'/[]":                 `"'/[]"`,
		"\x00\x01\x09\x0a\x1f": `"\x00\x01\x09\x0a\x1f"`,
		" ~\x7f\u0080":         "\" ~\\x7f\u0080\"",
		"é€\ufffd\U0010ffff":   "\"é€\ufffd\U0010ffff\"",
		"\u2028\ufeff\u00a0":   "\"\u2028\ufeff\u00a0\"",
	} {
		printed(t, row(txt(text), list(txt(text))), want+" ["+want+"]")
	}
	for _, text := range rightTexts() {
		b, e := tuple.Print(row(txt(text)))
		same(t, "Print", e, api.OK)
		parsed(t, b, row(txt(text)))
	}
	all := ""
	for c := range 256 {
		all += string([]byte{byte(c)})
	}
	printed(t, row(bin(all)), fmt.Sprintf("x'%x'", all))
}

// P2.5: \x may stand for any byte below 80.
func TestTurnedBytes(t *testing.T) {
	for c := range 256 {
		text := fmt.Sprintf(`"\x%02x"`, c)
		if c < 0x80 {
			parsed(t, text, row(txt(string(rune(c)))))
		} else {
			refused(t, text, 0, api.ErrItem)
		}
	}
	parsed(t, `"\x41\"\\\x22\x5c"`, row(txt("A\"\\\"\\")))
}

// P2.5: blanks and brackets wherever they may stand.
func TestBlanksAndBrackets(t *testing.T) {
	parsed(t, "  [ 1[]x'00'\"\"] ", row(list(num(1), list(), bin("\x00"), txt(""))))
	for _, c := range []struct {
		text string
		l    []api.Item
	}{
		{" ", nil},
		{"     ", nil},
		{" 1", row(num(1))},
		{"1 ", row(num(1))},
		{"  1   2  ", row(num(1), num(2))},
		{"[ ]", row(list())},
		{"[]", row(list())},
		{"  [   ]  ", row(list())},
		{"[ 1 ]", row(list(num(1)))},
		{"[1][2]", row(list(num(1)), list(num(2)))},
		{"[[]]", row(list(list()))},
		{"[ [ ] [ ] ]", row(list(list(), list()))},
		{"[][[]][]", row(list(), list(list()), list())},
		{"1[2]3", row(num(1), list(num(2)), num(3))},
		{"null[true[false]]0x0p+00[inf]", row(null, list(yes, list(no)), bits(0), list(float(math.Inf(1))))},
		{"nan:7ff8000000000000[]-inf", row(bits(0x7ff8000000000000), list(), float(math.Inf(-1)))},
		{`"a""b"`, row(txt("a"), txt("b"))},
		{`"a"1`, row(txt("a"), num(1))},
		{`"a"null`, row(txt("a"), null)},
		{`"a"x'00'`, row(txt("a"), bin("\x00"))},
		{`x'00'"a"`, row(bin("\x00"), txt("a"))},
		{`x'00'x'01'`, row(bin("\x00"), bin("\x01"))},
		{`x''x''`, row(bin(""), bin(""))},
		{`x'00'-5`, row(bin("\x00"), num(-5))},
		{`x'00'true`, row(bin("\x00"), yes)},
		{`""""`, row(txt(""), txt(""))},
		{`["a"]"b"[x'00']x'01'`, row(list(txt("a")), txt("b"), list(bin("\x00")), bin("\x01"))},
		{`"]" "[" " "`, row(txt("]"), txt("["), txt(" "))},
		{strings.Repeat("[ ", 15) + strings.Repeat(" ]", 15), row(nested(15))},
	} {
		parsed(t, c.text, c.l)
		parsed(t, "  "+c.text+" ", c.l)
		if len(c.l) > 0 {
			parsed(t, "["+c.text+"]", row(list(c.l...)))
			parsed(t, "[ "+c.text+"  ]", row(list(c.l...)))
		}
	}
}

// noItems are words and signs that are none.
func noItems() []string {
	l := []string{
		"01", "x'A0'", "1.5", // the chapter's
		"Null", "NULL", "nul", "nulll", "nullnull", "True", "truefalse", "FALSE", "t", "f", "n", "x", "none", "nil", "a", ",", "1,2", "(", "{}", "\t", "1\t2", "\n", "null\n", "\x00", "\x7f", "é", "\xff", "'", "'a'", "\u00a0", "#", "=", "-", "+", ".", `\`, `\"`,
		"00", "-0", "-00", "-01", "+0", "+1", "--1", "1-", "1_000", "0x1", "0x10", "1e5", "1e0", "0b1", "0o7", "1.", ".5", "1.0", "1a", "a1", "\uff11",
		"9223372036854775808", "-9223372036854775809", "18446744073709551615", "18446744073709551616", "99999999999999999999999999",
	}
	l = append(l,
		"Inf", "+inf", "+Inf", "-Inf", "INF", "infinity", "-infinity", "--inf", "inf0", "nan", "NaN", "-nan",
		"nan:", "nan:7ff", "nan:7ff800000000000", "nan:7ff80000000000000", "nan:07ff8000000000000", "nan:7FF8000000000000", "nan:7ff800000000000A", "nan:7ff800000000000g", "nan:0x7ff80000000000", "nan:7ff8_00000000000", "NAN:7ff8000000000000", "-nan:7ff8000000000000", "nan:7ff8000000000000x", "nan:+7ff800000000000", "nan:-7ff800000000000",
		"nan:7ff0000000000000", "nan:fff0000000000000", "nan:3ff0000000000000", "nan:0000000000000000", "nan:7fefffffffffffff", "nan:8000000000000000", "nan:ffffffffffffffffff",
	)
	l = append(l,
		"0x0", "0x0p+0", "0x0p0", "0x0p00", "0x0p-00", "0x0p+000", "0x0p+01", "0x0.p+00", "0x0.0p+00", "0x00p+00", "+0x0p+00", "0X0P+00", "0X0p+00", "-0x0p-00",
		"0x1p0", "0x1p+0", "0x1p00", "0x1p-00", "0x1p+000", "0x1p+001", "0x1p1", "0x1p+1", "0x1p-1", "0x1p+010", "0x1p", "0x1p+", "0x1.8", "0x1.8p", "0x1.80p+00", "0x1.p+00", "0x1.0p+00", "0x2p+00", "0x0.8p+00", "0x01p+00", "0x1.8P+00", "0X1.8p+00", "+0x1.8p+00", "0x1.Ap+00", "0x1.8p+000", "0x1.8p+0a", "0x.8p+00", "0x1_0p+00", "0x1.8_0p+00", "0x_1p+00", "1p+00", "0b1p+00", "--0x1p+00",
		"0x1.00000000000001p+00", "0x1.00000000000008p+00", "0x1.ffffffffffffffp+00", "0x1.0000000000000000000000000001p+00",
		"0x1p+1024", "-0x1p+1024", "0x1p+9999", "0x1p+99999999999999999999", "0x1.fffffffffffff8p+1023",
		"0x1p-1075", "0x1.8p-1074", "0x1.8p-1075", "0x1.fffffffffffffp-1023", "0x1p-1076", "0x1p-9999", "0x0.8p-1022", "0x0.0000000000001p-1022", "0x1p-99999999999999999999",
	)
	l = append(l,
		"x'", "x'0", "x'00", "x'0'", "x'000'", "x'0g'", "x'g0'", "x'0A'", "x'FF'", "X'00'", "x'0 0'", "x' 00'", "x'00 '", "x'0x'", "x\"00\"", "x00", "x'[]'", "x'é'", "x'-1'", "x'+1'", "1x'00'", "xx'00'",
		`"`, `"a`, `"a\"`, `"\`, `"\\`, `"\x`, `"\x4`, `"\x41`, `"\x"`, `"\x4"`, `"\x4g"`, `"\xg4"`, `"\x4A"`, `"\x1F"`, `"\X41"`, `"\x80"`, `"\xff"`, `"\xc3\xa9"`, `"\n"`, `"\t"`, `"\0"`, `"\'"`, `"\/"`, `"\u0041"`, `"\ "`, "\"\\\xc3\xa9\"", "\"\\é\"", `1"a"`, `null"a"`, `-"a"`,
	)
	for c := range 0x20 {
		l = append(l, fmt.Sprintf("\"a%cb\"", c))
	}
	l = append(l, "\"\x7f\"", "\"a\x7f\"")
	for _, text := range wrongTexts() {
		l = append(l, `"`+text+`"`, `"a`+text+`b"`)
	}
	return l
}

// P2.5: ErrItem at the first byte of what is none, wherever it stands.
func TestParseRefusesWhatIsNone(t *testing.T) {
	for _, none := range noItems() {
		for _, ahead := range []string{"", "  ", "1 ", "[", "[ ", "[]", `"a"`, "x'00'", strings.Repeat("[", 16), strings.Repeat("1 ", 63)} {
			refused(t, ahead+none, len(ahead), api.ErrItem)
			refused(t, ahead+none+" ]]]", len(ahead), api.ErrItem)
		}
	}
}

// P2.5: the place of the fault, and which fault comes first.
func TestParseTellsTheFirstFault(t *testing.T) {
	ones := strings.Repeat("1 ", 64)
	deep := strings.Repeat("[", 16)
	for _, c := range []struct {
		text string
		at   int
		e    api.Errno
	}{
		{"[1", 2, api.ErrItem}, {"1]", 1, api.ErrItem}, {"01", 0, api.ErrItem}, {"x'A0'", 0, api.ErrItem}, {"1.5", 0, api.ErrItem},
		{"[", 1, api.ErrItem}, {"[  ", 3, api.ErrItem}, {"  [ [ ] 1 ", 10, api.ErrItem}, {"[[[]]", 5, api.ErrItem},
		{"]", 0, api.ErrItem}, {"  ]", 2, api.ErrItem}, {"[]]", 2, api.ErrItem}, {"[1] 2 ] x", 6, api.ErrItem}, {`"a"]`, 3, api.ErrItem}, {`x''] ]`, 3, api.ErrItem},
		{"[a", 1, api.ErrItem}, {"[1 a ]", 3, api.ErrItem}, {"1 b ]", 2, api.ErrItem}, {"[1 2] 3 c [", 8, api.ErrItem}, {"a b", 0, api.ErrItem}, {`"a"null"b"`, 3, api.ErrItem}, {`x'00'1"b"`, 5, api.ErrItem}, {`[]1x''`, 2, api.ErrItem}, {"1 a[b", 2, api.ErrItem},
		{ones + "1", 128, api.ErrItems}, {ones + "a", 128, api.ErrItems}, {ones + "[", 128, api.ErrItems}, {ones + `"`, 128, api.ErrItems}, {ones + "   x'", 131, api.ErrItems}, {ones + "\xff", 128, api.ErrItems},
		{ones + "]", 128, api.ErrItem},
		{"a " + ones + "1", 0, api.ErrItem}, {strings.Repeat("1 ", 63) + "a 1", 126, api.ErrItem}, {strings.Repeat("1 ", 63) + "[a] 1", 127, api.ErrItem}, {strings.Repeat("1 ", 63) + "[1] a", 130, api.ErrItems},
		{"[" + ones + "1]", 129, api.ErrItems}, {"[" + ones + "a", 129, api.ErrItems}, {"[" + ones, 129, api.ErrItem}, {"[" + ones + "]]", 130, api.ErrItem},
		{"[" + ones + "[", 129, api.ErrItems},
		{strings.Repeat("[]", 65), 128, api.ErrItems}, {strings.Repeat(`""`, 65), 128, api.ErrItems}, {"[" + strings.Repeat("x''", 65), 193, api.ErrItems},
		{deep + "[", 16, api.ErrItems}, {deep + "[]", 16, api.ErrItems}, {deep + " [a", 17, api.ErrItems}, {deep + "1[", 17, api.ErrItems}, {deep + "a[", 16, api.ErrItem}, {deep, 16, api.ErrItem}, {deep + "][[", 18, api.ErrItems},
		{strings.Repeat("[", 65536), 16, api.ErrItems}, {strings.Repeat("]", 65536), 0, api.ErrItem}, {strings.Repeat("a", 65536), 0, api.ErrItem}, {strings.Repeat("1", 65536), 0, api.ErrItem}, {"[" + strings.Repeat(" ", 65535), 65536, api.ErrItem},
		{`"` + strings.Repeat(`\`, 65535), 0, api.ErrItem}, {`x'` + strings.Repeat(`0`, 65534), 0, api.ErrItem}, {"0x1." + strings.Repeat("0", 65500) + "1p+00", 0, api.ErrItem},
	} {
		refused(t, c.text, c.at, c.e)
	}
	parsed(t, ones, many(64, num(1)))
	parsed(t, "["+ones+"]", row(list(many(64, num(1))...)))
	parsed(t, strings.Repeat("["+ones+"]", 64), many(64, list(many(64, num(1))...)))
	parsed(t, deep+ones+strings.Repeat("]", 16), row(nested(16, many(64, num(1))...)))
}

// P2.5: exactly 65536 bytes and one more.
func TestMostText(t *testing.T) {
	for _, c := range []struct {
		what string
		of   func(n int) []api.Item // a tuple whose text has n bytes
	}{
		{"a Text", func(n int) []api.Item { return row(txt(strings.Repeat("a", n-2))) }},
		{"a Text of others' signs", func(n int) []api.Item { return row(txt(strings.Repeat("é", 30000) + strings.Repeat("a", n-60002))) }},
		{"a Text with bytes below 20", func(n int) []api.Item { return row(txt(strings.Repeat("\n", 16000) + strings.Repeat("a", n-64002))) }},
		{"Bytes, a Text", func(n int) []api.Item { return row(bin(strings.Repeat("a", 32000)), txt(strings.Repeat("a", n-64006))) }},
		{"Lists", func(n int) []api.Item { return row(list(list(txt(strings.Repeat("a", n-6))))) }},
		{"Ints behind a Text", func(n int) []api.Item { return append(row(txt(strings.Repeat("a", n-2-63*2))), many(63, num(1))...) }},
		{"a Float behind a Text", func(n int) []api.Item { return row(txt(strings.Repeat("a", n-10)), bits(0)) }},
		{"a List without items behind a Text", func(n int) []api.Item { return row(txt(strings.Repeat("a", n-5)), list()) }},
	} {
		text, e := tuple.Print(c.of(65536))
		same(t, "Print of "+c.what, e, api.OK)
		same(t, "bytes of "+c.what, len(text), 65536)
		parsed(t, text, c.of(65536))
		for _, n := range []int{65537, 65538, 70000, 1 << 20} {
			text, e := tuple.Print(c.of(n))
			same(t, fmt.Sprintf("Print of %s, %d bytes", c.what, n), e, api.ErrLong)
			same(t, "text of "+c.what, text, "")
		}
	}
	long, e := tuple.Print(row(bin(strings.Repeat("a", 32767))))
	same(t, "Print of 32767 Bytes", e, api.ErrLong)
	same(t, "text of 32767 Bytes", long, "")
	refused(t, `"`+strings.Repeat("a", 65535)+`"`, 0, api.ErrLong)
	refused(t, strings.Repeat(" ", 65537), 0, api.ErrLong)
	refused(t, strings.Repeat("]", 65537), 0, api.ErrLong)
	refused(t, strings.Repeat("1 ", 40000), 0, api.ErrLong)
	parsed(t, strings.Repeat(" ", 65536), nil)
}

// P2.6, P0.5: there and back.
func TestTextIsReadBack(t *testing.T) {
	r := chance()
	for range 20000 {
		l := someItems(r, 4)
		text, e := tuple.Print(l)
		same(t, "Print", e, api.OK)
		parsed(t, text, l)
	}
}

// P2.6: what Print writes of what Parse read is read as the same tuple. (Texts that are nearly a tuple's.)
func TestWhatIsParsedIsPrinted(t *testing.T) {
	r := chance()
	taken := 0
	for range 200000 {
		text, _ := tuple.Print(someItems(r, 3))
		if text == "" {
			continue
		}
		b := []byte(text)
		at := r.Intn(len(b))
		switch r.Intn(3) {
		case 0:
			b[at] = " []\"'\\x01a"[r.Intn(9)]
		case 1:
			b = slices.Delete(b, at, at+1)
		case 2:
			b = slices.Insert(b, at, b[at])
		}
		l, at, e := tuple.Parse(string(b))
		if e != api.OK {
			if at < 0 || at > len(b) || l != nil {
				t.Fatalf("Parse of %q: place %d, items %v", b, at, l)
			}
			continue
		}
		taken++
		again, e := tuple.Print(l)
		same(t, "Print of what is read", e, api.OK)
		parsed(t, again, l)
	}
	if taken < 10000 {
		t.Error("only", taken, "were taken: too few to tell")
	}
}

// P2.6: what has no blanks may be too long, once it has them.
func TestPrintedWithBlanksItMayBeTooLong(t *testing.T) {
	text := strings.Repeat("[]", 64)
	text = "[" + strings.Repeat("["+text+"]", 64) + "]"
	text += "x'" + strings.Repeat("00", (65536-3-len(text))/2) + "'"
	l, _, e := tuple.Parse(text)
	same(t, "Parse", e, api.OK)
	_, e = tuple.Print(l)
	same(t, "Print", e, api.ErrLong)
}
