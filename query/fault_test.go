package query_test

import (
	"strings"
	"testing"

	"espalier/api"
	"espalier/query"
)

// reads holds Parse of any text against the machine, and tells whether it is a question.
func reads(t *testing.T, text string) bool {
	at, want := expected(text)
	q, place, e := query.Parse(text)
	if place != at || e != want || (q != nil) != (want == api.OK) {
		t.Helper()
		t.Errorf("Parse(%.600q): %v, %d, %d; want %d, %d", text, q != nil, place, e, at, want)
	}
	return want == api.OK
}

// rows calls with all rows of that many of the words.
func rows(words []string, most int, call func(row string)) {
	if most == 0 {
		call("")
		return
	}
	rows(words, most-1, func(row string) {
		for _, word := range words {
			call(row + " " + word)
		}
	})
}

func fewWords() []string {
	return append(strings.Fields("where and or not is null in between order by asc desc limit ( ) , = <> >= a key 7 -1 true A inf 2.5 ["), `"s"`, `"\q"`, "x'00'", "x'0'", `"`, "'")
}

// P20.1: every row of few tokens behind every beginning of a question.
func TestEveryRow(t *testing.T) {
	t.Parallel()
	for begun, most := range map[string]int{
		"": 3, "where": 3, "where a": 3, "where not": 2, "where a = 1": 3, "where (a = 1": 3, "where (a = 1)": 2, "where a in (1": 3, "where a in": 3,
		"where a not": 3, "where a is": 3, "where a between 1": 3, "where a between 1 and": 2, "order": 3, "order by": 3, "order by a": 3, "order by a desc": 2,
		"order by a,": 2, "limit": 2, "limit 3": 2, "where a = 1 order by a limit": 2, "where a =": 2, "where a = 1 and": 2, "where a = 1 or": 2,
	} {
		for n := range most + 1 {
			rows(fewWords(), n, func(row string) { reads(t, begun+row) })
			stop(t)
		}
	}
}

// P20.1: drawn rows of tokens, of questions that were spoilt here and there.
func TestDrawnRows(t *testing.T) {
	t.Parallel()
	r := chance()
	good := 0
	for range 20000 {
		tokens := drawnQuestion(r, 1+r.Intn(5)).source(r)
		for range r.Intn(3) {
			words := fewWords()
			i := r.Intn(len(tokens) + 1)
			switch {
			case r.Intn(3) == 0 || i == len(tokens):
				tokens = append(tokens[:i:i], append([]string{words[r.Intn(len(words))]}, tokens[i:]...)...)
			case r.Intn(2) == 0:
				tokens = append(tokens[:i:i], tokens[i+1:]...)
			default:
				tokens[i] = words[r.Intn(len(words))]
			}
		}
		if reads(t, loose(r, tokens)) {
			good++
		}
		stop(t)
	}
	same(t, "questions are read, and others refused", good > 5000 && good < 15000, true)
}

// P20.1: texts of any bytes that tokens are made of, put together by chance.
func TestDrawnBytes(t *testing.T) {
	t.Parallel()
	r := chance()
	some := []string{"x", "'", `"`, `\`, "(", ")", ",", "=", "<", ">", "a", "1", " ", "\n", "\t", "\r", "\v", "\x00", "\xff", "é", "[", "]", ".", "-", "x'", "<>", "null", "where ", "where a = ", "limit ", "order by "}
	for range 150000 {
		text := []string{"", "where ", "where a = ", "where a in (", "order by a", "limit "}[r.Intn(6)]
		for range r.Intn(8) {
			text += some[r.Intn(len(some))]
		}
		reads(t, text)
		stop(t)
	}
}

// P20.1: every byte, alone, ahead of a question, in a word, and where a token must stand.
func TestEveryByte(t *testing.T) {
	for b := range 256 {
		s := string([]byte{byte(b)})
		for _, text := range []string{s, s + "where a = 1", "where a = 1" + s, "where a" + s + "= 1", "where a = " + s, "where a = 1" + s + "and b = 2", "where " + s + " = 1", "where a" + s + " = 1",
			"order by a" + s, "order by a" + s + "desc", "limit " + s, "limit 1" + s, `where a = "` + s + `"`, "where a = x'" + s + "'", "where a = x'0" + s + "'", `where a = "\` + s + `"`} {
			reads(t, text)
		}
	}
}

// P20.1: a text of 4096 bytes is read, one of 4097 is ErrLong at 0, whatever it has.
func TestLongTexts(t *testing.T) {
	question := "where a = 1 order by a limit 5"
	blank := func(n int) string { return strings.Repeat(" ", n) }
	for _, text := range []string{question + blank(4096-len(question)), blank(4096-len(question)) + question, blank(4096), `where a = "` + strings.Repeat("x", 4096-len(`where a = ""`)) + `"`} {
		same(t, "bytes", len(text), 4096)
		ask(t, text)
		refused(t, text+" ", 0, api.ErrLong)
		refused(t, text+"'", 0, api.ErrLong)
		refused(t, " "+text, 0, api.ErrLong)
	}
	refused(t, "'"+blank(4095), 0, api.ErrWord)
	refused(t, "'"+blank(4096), 0, api.ErrLong)
	refused(t, blank(4095)+"'", 4095, api.ErrWord)
	refused(t, strings.Repeat("( ", 100000), 0, api.ErrLong)
}

// P20.1: 128 tokens may be, the next one is ErrLong, whatever it is, wherever it stands; the end of the text is none.
func TestManyTokens(t *testing.T) {
	tests := func(n int) string { return "where a = 1" + strings.Repeat(" and a = 1", n) }
	full := tests(31)
	same(t, "tokens", len(pieces(full)), 128)
	ask(t, full)
	ask(t, full+"  ")
	for _, next := range append(fewWords(), ")", "x", "x'", "\xff") {
		refused(t, full+" "+next, len(full)+1, api.ErrLong)
		refused(t, full+" "+next+" '", len(full)+1, api.ErrLong)
	}
	// Where the grammar wants one more the text's end is ErrQuery, as it is anywhere.
	short := tests(30) + " order by b"
	same(t, "tokens", len(pieces(short)), 127)
	refused(t, short+",", len(short)+1, api.ErrQuery)
	refused(t, short+", c", len(short)+2, api.ErrLong)
	refused(t, short+", '", len(short)+2, api.ErrLong)
	// A fault ahead of the 129th is told first.
	refused(t, "wher"+full, 0, api.ErrQuery)
	refused(t, "where A = 1"+full, 6, api.ErrWord)
	refused(t, strings.Repeat("where ", 200), 6, api.ErrWord)
	for _, text := range []string{
		"where a in (1" + strings.Repeat(",1", 61) + ")", "where a in (1" + strings.Repeat(",1", 62) + ")", "where " + strings.Repeat("not ", 124) + "a = 1", "where " + strings.Repeat("not ", 125) + "a = 1",
		"where " + strings.Repeat("not ", 500) + "a = 1", "order by a" + strings.Repeat(",a", 62), "order by a" + strings.Repeat(",a", 63), "order by a" + strings.Repeat(" desc,a", 41), "order by a" + strings.Repeat(" desc,a", 42),
	} {
		reads(t, text)
	}
}

// P20.1: brackets stand in 16 of one another, not in 17; those of an in, and those that are closed, do not count.
func TestDeepBrackets(t *testing.T) {
	for n := 1; n <= 40; n++ {
		open, shut := strings.Repeat("(", n), strings.Repeat(")", n)
		text := "where " + open + "a = 1" + shut
		if n <= 16 {
			writes(t, text, "where a = 1")
			writes(t, "where "+open+"a in (1)"+shut, "where a in (1)")
			writes(t, "where "+open+"a = 1"+shut+" and "+open+"b = 2"+shut, "where a = 1 and b = 2")
			writes(t, "where not "+open+"not a = 1"+shut, "where not not a = 1")
		} else {
			refused(t, text, 22, api.ErrQuery)
			refused(t, "where not "+strings.Repeat("(not ", n)+"a = 1"+shut, 10+16*5, api.ErrQuery)
			refused(t, "where "+open, 22, api.ErrQuery)
			refused(t, "where "+open[:16]+"a = 1 and (", 32, api.ErrQuery)
			refused(t, "where "+open[:16]+"a = 1 and '", 32, api.ErrWord)
		}
		reads(t, text+")")
		reads(t, text[:len(text)-1])
	}
	row := strings.Repeat("(a = 1) and ", 15) + "a = 1"
	ask(t, "where "+strings.Repeat("(", 8)+row+strings.Repeat(")", 8))
}

// P20.1: names at their limits, where a test, and where a term begins.
func TestNames(t *testing.T) {
	long := strings.Repeat("n", 64)
	for _, name := range []string{"a", "z", "a0", "a-", "a_", "a.", "a-b_c.d9", "key", "keys", "inf", "wheres", "andy", "nul", "truer", "x", "descr", long, "x00", "nan", "e1"} {
		writes(t, "where "+name+" = 1", "where "+name+" = 1")
		writes(t, "order by "+name, "order by "+name)
		writes(t, "where a = 1 or not("+name+" is null)", "where a = 1 or not "+name+" is null")
		writes(t, "order by a,"+name+" desc", "order by a, "+name+" desc")
	}
	for _, name := range []string{"A", "aB", "0a", "1", "-1", "_a", "-a", ".a", "a+b", "a/b", "a:b", "é", "aé", "\xff", "a\x00", "where", "and", "or", "is", "null", "in", "between", "order", "by", "asc", "desc", "limit", "true", "false", long + "n", "1.5", "-inf", "0x1p+00", "[", "a]"} {
		refused(t, "where "+name+" = 1", 6, api.ErrWord)
		refused(t, "order by "+name, 9, api.ErrWord)
		refused(t, "where (not "+name+" = 1", 11, api.ErrWord)
		refused(t, "order by a,"+name, 11, api.ErrWord)
	}
	// not begins a condition, but is no name.
	refused(t, "order by not", 9, api.ErrWord)
	refused(t, "where not = 1", 10, api.ErrQuery)
	for _, other := range []string{`"a"`, "x'00'", "=", "<=", ")", ",", ""} {
		refused(t, "where "+other, 6, api.ErrQuery)
		refused(t, "order by "+other, 9, api.ErrQuery)
		refused(t, "order by a,"+other, 11, api.ErrQuery)
	}
}

// P20.1: the number behind limit.
func TestLimits(t *testing.T) {
	for _, n := range []string{"0", "1", "9", "1073741824"} {
		writes(t, "limit "+n, "limit "+n)
		writes(t, "where a = 1 order by a limit\n"+n+" ", "where a = 1 order by a limit "+n)
	}
	for _, n := range []string{"1073741825", "-1", "-0", "00", "01", "1.0", "1.", "0x1p+00", "9223372036854775807", "9223372036854775808", "-9223372036854775808", "true", "null", "x", "limit", "inf", `"1"`, "x'01'", `"`, "x'01", "'", "1[]", "[1]", "1_0", "+1"} {
		refused(t, "limit "+n, 6, api.ErrWord)
	}
	for _, n := range []string{"", "(", ")", "=", "<>", ","} {
		refused(t, "limit "+n, 6, api.ErrQuery)
	}
	refused(t, "limit", 5, api.ErrQuery)
	refused(t, "limit 1,", 7, api.ErrQuery)
	refused(t, "limit 1 order by a", 8, api.ErrQuery)
	refused(t, "limit 1 where a = 1", 8, api.ErrQuery)
	refused(t, "order by a where a = 1", 11, api.ErrQuery)
}

// P20.1: what is no literal where one must stand is ErrWord, if it is a word, a quoted one or bytes, else ErrQuery.
func TestNoLiterals(t *testing.T) {
	for _, text := range []string{
		"null", "b", "where", "and", "not", "[1]", "[", "]", "1[]", "1]", "01", "+1", "-", "--1", "9223372036854775808", "-9223372036854775809", "0x1", "1e5", "1.", ".5", "-.5", "1.5.5", "1.5e3", "1._5", "--1.5", "1.-5", "Inf", "NaN", "nan", "infinity", "0x1.50p+00", "nan:0000000000000000", "TRUE",
		`"\q"`, "\"\n\"", "\"\x7f\"", "\"\xff\"", `"\x80"`, `"\xAA"`, `"\x4"`, "x'0'", "x'AA'", "x'0g'", "x' '", "x'00 00'", "X'00'",
		`"`, `"a`, `"\"`, `"a\"`, `"\`, "x'", "x'00", "'", "''", "'a'",
	} {
		for _, ahead := range []string{"where a = ", "where a <> ", "where a<", "where a<=", "where a>", "where a >= ", "where a in (", "where a in (1,", "where a not in(2 , ", "where a between ", "where a between 1 and ", "where not (a = 1 or a not between \"x\" and "} {
			refused(t, ahead+text, len(ahead), api.ErrWord)
		}
	}
	for _, sign := range []string{"(", ")", ",", "=", "<>", "<", "<=", ">", ">=", "(1", ")and"} {
		for _, ahead := range []string{"where a = ", "where a <>\n", "where a in (", "where a in (1,", "where a between ", "where a between 1 and "} {
			refused(t, ahead+sign, len(ahead), api.ErrQuery)
		}
	}
	for _, text := range []string{"where a =", "where a = \t\n\r ", "where a in (", "where a in (1, ", "where a between ", "where a between 1 and"} {
		refused(t, text, len(text), api.ErrQuery)
	}
}
