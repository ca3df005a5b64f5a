package tuple

import (
	"math"
	"strconv"
	"strings"
	"unicode/utf8"

	"espalier/api"
)

const (
	digits    = "0123456789abcdef"
	bytesMark = "x'"
	nanMark   = "nan:"
	rubout    = 0x7f // the one byte from 20 to 7F that is no sign
)

// Print writes a tuple as text; Parse reads one: it, and the place of the fault.
func Print(l []api.Item) (string, api.Errno) {
	if e := Check(l); e != api.OK {
		return "", e
	}
	b := printItems(nil, l)
	if len(b) > api.MaxText {
		return "", api.ErrLong
	}
	return string(b), api.OK
}

// printItems leaves off where there are too many bytes already.
func printItems(b []byte, l []api.Item) []byte {
	for i, item := range l {
		if len(b) > api.MaxText {
			break
		}
		if i > 0 {
			b = append(b, ' ')
		}
		b = printItem(b, item)
	}
	return b
}

func printItem(b []byte, item api.Item) []byte {
	switch item.Kind {
	case api.Null:
		return append(b, "null"...)
	case api.False:
		return append(b, "false"...)
	case api.True:
		return append(b, "true"...)
	case api.Int:
		return strconv.AppendInt(b, item.Num, 10)
	case api.Float:
		return printFloat(b, item.Num)
	case api.Bytes:
		return printBytes(b, cut(item.Text))
	case api.Text:
		return printText(b, cut(item.Text))
	}
	return append(printItems(append(b, '['), item.List), ']')
}

func printFloat(b []byte, num int64) []byte {
	f := math.Float64frombits(uint64(num))
	switch {
	case math.IsNaN(f):
		return strconv.AppendUint(append(b, nanMark...), uint64(num), 16)
	case math.IsInf(f, 1):
		return append(b, "inf"...)
	case math.IsInf(f, -1):
		return append(b, "-inf"...)
	}
	return strconv.AppendFloat(b, f, 'x', -1, 64)
}

func printBytes(b []byte, text string) []byte {
	b = append(b, bytesMark...)
	for i := range len(text) {
		b = printByte(b, text[i])
	}
	return append(b, '\'')
}

func printByte(b []byte, c byte) []byte { return append(b, digits[c>>4], digits[c&15]) }

func printText(b []byte, text string) []byte {
	b = append(b, '"')
	for _, r := range text {
		switch {
		case r == '"' || r == '\\':
			b = append(b, '\\', byte(r))
		case isHidden(r):
			b = printByte(append(b, `\x`...), byte(r))
		default:
			b = utf8.AppendRune(b, r)
		}
	}
	return append(b, '"')
}

func isHidden(r rune) bool { return r < ' ' || r == rubout }

func Parse(text string) ([]api.Item, int, api.Errno) {
	if len(text) > api.MaxText {
		return nil, 0, api.ErrLong
	}
	l, at, e := parseItems(text, 0, 0)
	if e != api.OK {
		return nil, at, e
	}
	return l, 0, api.OK
}

// parseItems reads the items of a List in that depth from the place at on: them, and the place behind its bracket; with an error, the place of the fault. The tuple itself is as one in depth 0, which the end of the text ends.
func parseItems(text string, at, depth int) ([]api.Item, int, api.Errno) {
	var l []api.Item
	for at < len(text) {
		switch c := text[at]; {
		case c == ' ':
			at++
		case c == ']' && depth == 0:
			return nil, at, api.ErrItem
		case c == ']':
			return l, at + 1, api.OK
		case len(l) == api.MaxItems || c == '[' && depth == api.MaxDepth:
			return nil, at, api.ErrItems
		default:
			item, next, e := parseItem(text, at, depth)
			if e != api.OK {
				return nil, next, e
			}
			l, at = append(l, item), next
		}
	}
	if depth > 0 {
		return nil, at, api.ErrItem
	}
	return l, at, api.OK
}

func parseItem(text string, at, depth int) (api.Item, int, api.Errno) {
	if text[at] == '[' {
		l, next, e := parseItems(text, at+1, depth+1)
		if e != api.OK {
			return api.Item{}, next, e
		}
		return api.Item{Kind: api.List, List: l}, next, api.OK
	}
	item, n, ok := parseOne(text[at:])
	if !ok {
		return api.Item{}, at, api.ErrItem
	}
	return item, at + n, api.OK
}

// parseOne reads an item that is no List from the beginning of a text: it, how many bytes it takes there, and whether it is one.
func parseOne(text string) (api.Item, int, bool) {
	if text[0] == '"' {
		inside, n, ok := parseText(text[1:])
		return api.Item{Kind: api.Text, Text: inside}, n + 1, ok
	}
	if rest, ok := strings.CutPrefix(text, bytesMark); ok {
		inside, n, ok := parseBytes(rest)
		return api.Item{Kind: api.Bytes, Text: inside}, n + len(bytesMark), ok
	}
	n := strings.IndexAny(text, " []")
	if n < 0 {
		n = len(text)
	}
	item, ok := parseWord(text[:n])
	return item, n, ok
}

// parseText reads what stands behind a Text's first sign, with its last one: the text, how many bytes it takes there, and whether it is one.
func parseText(text string) (string, int, bool) {
	var b []byte
	from := 0
	for i, r := range text {
		if i < from {
			continue
		}
		switch {
		case r == '"':
			return string(b), i + 1, true
		case r == '\\':
			c, n := parseTurned(text[i+1:])
			if n == 0 {
				return "", 0, false
			}
			b, from = append(b, c), i+1+n
		case isHidden(r) || r == utf8.RuneError && isBroken(text[i:]):
			return "", 0, false
		default:
			b = utf8.AppendRune(b, r)
		}
	}
	return "", 0, false
}

// isBroken tells a text that does not begin with a rune from one that begins with the rune FFFD itself.
func isBroken(text string) bool {
	_, n := utf8.DecodeRuneInString(text)
	return n <= 1
}

// parseTurned reads what stands behind a `\`: the byte that is meant, and how many bytes it takes there (0: it is none).
func parseTurned(text string) (byte, int) {
	if strings.HasPrefix(text, `"`) || strings.HasPrefix(text, `\`) {
		return text[0], 1
	}
	if len(text) < 3 || text[0] != 'x' {
		return 0, 0
	}
	c, ok := parseByte(text[1:])
	if !ok || c >= utf8.RuneSelf {
		return 0, 0
	}
	return c, 3
}

// parseBytes reads what stands behind the mark of Bytes, with their last sign, as parseText does.
func parseBytes(text string) (string, int, bool) {
	inside, _, ok := strings.Cut(text, "'")
	if !ok || len(inside)%2 != 0 {
		return "", 0, false
	}
	b := make([]byte, 0, len(inside)/2)
	for i := 0; i < len(inside); i += 2 {
		c, ok := parseByte(inside[i:])
		if !ok {
			return "", 0, false
		}
		b = append(b, c)
	}
	return string(b), len(inside) + 1, true
}

// parseByte reads the two digits of a byte.
func parseByte(text string) (byte, bool) {
	high, low := strings.IndexByte(digits, text[0]), strings.IndexByte(digits, text[1])
	return byte(high<<4 | low), high >= 0 && low >= 0
}

// parseWord reads an item that ends with its text. The library takes numbers in more forms than one: only what is printed just so is an item.
func parseWord(word string) (api.Item, bool) {
	item := guessWord(word)
	return item, string(printItem(nil, item)) == word
}

// guessWord tells which item a word would be, if it is one.
func guessWord(word string) api.Item {
	switch word {
	case "false":
		return api.Item{Kind: api.False}
	case "true":
		return api.Item{Kind: api.True}
	}
	if n, err := strconv.ParseInt(word, 10, 64); err == nil {
		return api.Item{Kind: api.Int, Num: n}
	}
	if rest, ok := strings.CutPrefix(word, nanMark); ok {
		// Bits that are no NaN's are printed another way, so they are none.
		n, _ := strconv.ParseUint(rest, 16, 64)
		return api.Item{Kind: api.Float, Num: int64(n)}
	}
	if f, err := strconv.ParseFloat(word, 64); err == nil {
		return api.Item{Kind: api.Float, Num: int64(math.Float64bits(f))}
	}
	return api.Item{}
}
