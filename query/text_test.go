package query_test

import (
	"fmt"
	"strings"
	"testing"
)

// P20.1, P20.2: what is read is told by Text: conditions one by one.
func TestTextOfConditions(t *testing.T) {
	for text, want := range map[string]string{
		"": "", " \t\r\n": "", "limit 0": "limit 0", "order by a": "order by a",
		"where a=1": "where a = 1", "where a<>1": "where a <> 1", "where a<1": "where a < 1", "where a<=1": "where a <= 1", "where a>1": "where a > 1", "where a>=1": "where a >= 1",
		"where a in(1)": "where a in (1)", "where a in ( 1 ,2, 3 )": "where a in (1, 2, 3)", "where a between 1 and 2": "where a between 1 and 2", "where a is null": "where a is null",
		"where a not in(1)": "where not a in (1)", "where a not between 1 and 2": "where not a between 1 and 2", "where a is not null": "where not a is null",
		"where not a is not null": "where not not a is null", "where not not not a = 1": "where not not not a = 1", "where not(a = 1)": "where not a = 1", "where not (not (a = 1))": "where not not a = 1",
		"where not a = 1 and b = 2": "where not a = 1 and b = 2", "where not (a = 1 and b = 2)": "where not (a = 1 and b = 2)", "where not (a = 1 or b = 2)": "where not (a = 1 or b = 2)",
		"where not ((a = 1 or b = 2) and c = 3)": "where not ((a = 1 or b = 2) and c = 3)", "where not (not a = 1 or b = 2)": "where not (not a = 1 or b = 2)",
		"where a = 1 and b = 2 or c = 3": "where a = 1 and b = 2 or c = 3", "where a = 1 or b = 2 and c = 3": "where a = 1 or b = 2 and c = 3", "where (a = 1 or b = 2) and c = 3": "where (a = 1 or b = 2) and c = 3",
		"where (a = 1 and b = 2) or (c = 3 and d = 4)": "where a = 1 and b = 2 or c = 3 and d = 4", "where a = 1 and (b = 2 and (c = 3 and d = 4))": "where a = 1 and b = 2 and c = 3 and d = 4",
		"where ((a = 1 and b = 2) and c = 3) and d = 4": "where a = 1 and b = 2 and c = 3 and d = 4", "where a = 1 or (b = 2 or (c = 3 or d = 4))": "where a = 1 or b = 2 or c = 3 or d = 4",
		"where a = 1 and (b = 2 or (c = 3 and (d = 4 or e = 5)))": "where a = 1 and (b = 2 or c = 3 and (d = 4 or e = 5))", "where (((a = 1)))": "where a = 1",
		"where (a = 1 and not (b = 2 and c = 3)) and d = 4": "where a = 1 and not (b = 2 and c = 3) and d = 4", "where ((a = 1 and b = 2))": "where a = 1 and b = 2", "where ((a = 1 or b = 2)) or c = 3": "where a = 1 or b = 2 or c = 3",
		"order by a asc, b desc , c": "order by a, b desc, c", "order by key,key desc limit 7": "order by key, key desc limit 7", "where a = 1 limit 9": "where a = 1 limit 9", "order by a,a,a": "order by a, a, a",
		`where a="("and b=")"or c in(",",") ,")`: `where a = "(" and b = ")" or c in (",", ") ,")`,
	} {
		writes(t, text, want)
	}
}

// P20.2: literals as tuple.Print writes them, wherever they stand.
func TestTextOfLiterals(t *testing.T) {
	for text, want := range map[string]string{
		"0": "0", "-1": "-1", "9223372036854775807": "9223372036854775807", "-9223372036854775808": "-9223372036854775808", "true": "true", "false": "false",
		"inf": "inf", "-inf": "-inf", "nan:7ff8000000000001": "nan:7ff8000000000001", "nan:ffffffffffffffff": "nan:ffffffffffffffff", "0x0p+00": "0x0p+00", "-0x1.8p-03": "-0x1.8p-03",
		"x''": "x''", "x'00ff'": "x'00ff'", `""`: `""`, `"é"`: `"é"`, `"\x41\x00\x7f\x1f"`: `"A\x00\x7f\x1f"`, `"\\\""`: `"\\\""`, `" a  b "`: `" a  b "`, `"x'00'"`: `"x'00'"`, `"where"`: `"where"`,
		"1.5": "0x1.8p+00", "-1.5": "-0x1.8p+00", "001.500": "0x1.8p+00", "0.0": "0x0p+00", "-0.0": "-0x0p+00", "0.1": "0x1.999999999999ap-04",
	} {
		writes(t, "where a = "+text, "where a = "+want)
		writes(t, "where a in("+text+","+text+")", "where a in ("+want+", "+want+")")
		writes(t, "where a between "+text+" and "+text, "where a between "+want+" and "+want)
		writes(t, "where a>="+text+" or b<"+text, "where a >= "+want+" or b < "+want)
	}
}

// P20.1, P20.2: drawn conditions, written with other brackets, blanks and words for the same, are read as they were meant.
func TestTextOfDrawnQuestions(t *testing.T) {
	t.Parallel()
	r := chance()
	for range 12000 {
		a := drawnQuestion(r, 1+r.Intn(7))
		text := loose(r, a.source(r))
		reads(t, text)
		stop(t)
		writes(t, text, a.text())
		stop(t)
	}
}

// P20.2: a Text may have more than 4096 bytes, of 128 tokens, and 16 brackets in one another.
func TestLongText(t *testing.T) {
	const item = "0x1.999999999999ap-04"
	one := func(n int) string { return strings.TrimSuffix(strings.Repeat("0.1,", n), ",") }
	writes(t, "where "+strings.Repeat("n", 64)+" in ("+one(61)+")", "where "+strings.Repeat("n", 64)+" in ("+strings.Repeat(item+", ", 60)+item+")")
	full := "where a = \"" + strings.Repeat("x", 4096-len(`where a = "" and b=1`)) + "\" and b=1"
	same(t, "bytes", len(full), 4096)
	want := strings.Replace(full, "b=1", "b = 1", 1)
	same(t, "a Text of 4098 bytes", ask(t, full).Text(), want)
	refused(t, want, 0, 2)
	deep := "a = 1"
	for i := range 16 {
		deep = fmt.Sprintf("(%s) %s a = 1", deep, []string{"and", "or"}[i%2])
	}
	deep = strings.Replace(deep, "(a = 1)", "(a = 1 or a = 2)", 1)
	writes(t, "where "+deep, "where "+deepText())
}

// deepText is the Text of 16 brackets in one another, of which an Or's needs none about an And.
func deepText() string {
	text := "a = 1 or a = 2"
	for i := range 16 {
		if i%2 == 0 {
			text = "(" + text + ") and a = 1"
		} else {
			text += " or a = 1"
		}
	}
	return text
}
