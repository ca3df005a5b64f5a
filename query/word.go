package query

import (
	"math"
	"strconv"
	"strings"

	"espalier/api"
	"espalier/tuple"
)

// nameOfKey is the name of a record's key, which no field has.
const nameOfKey = "key"

// isName tells whether a word may name a field, or the key.
func isName(word string) bool {
	if len(word) > api.MaxName || isKeyword(word) || !isLetter(word[0]) {
		return false
	}
	for i := range len(word) {
		if !isOfNames(word[i]) {
			return false
		}
	}
	return true
}

// isKeyword also tells the two literals that would be names.
func isKeyword(word string) bool {
	switch word {
	case "where", "and", "or", "not", "is", "null", "in", "between", "order", "by", "asc", "desc", "limit", "true", "false":
		return true
	}
	return false
}

func isOfNames(b byte) bool {
	switch b {
	case '_', '-', '.':
		return true
	}
	return isLetter(b) || isDigit(b)
}

func isLetter(b byte) bool { return b >= 'a' && b <= 'z' }

func isDigit(b byte) bool { return b >= '0' && b <= '9' }

// literalOf is the item that a token says; false, if it is no literal.
func literalOf(text string) (api.Item, bool) {
	if isDecimal(text) {
		f, _ := strconv.ParseFloat(text, 64) // what is too great is an error to it, and inf, as it should be
		return api.Item{Kind: api.Float, Num: int64(math.Float64bits(f))}, true
	}
	l, _, e := tuple.Parse(text)
	if e != api.OK || len(l) != 1 || l[0].Kind == api.Null || l[0].Kind == api.List {
		return api.Item{}, false
	}
	return l[0], true
}

// isDecimal tells whether a word is digits, a point, and digits.
func isDecimal(word string) bool {
	whole, part, is := strings.Cut(strings.TrimPrefix(word, "-"), ".")
	return is && areDigits(whole) && areDigits(part)
}

func areDigits(text string) bool {
	for i := range len(text) {
		if !isDigit(text[i]) {
			return false
		}
	}
	return text != ""
}

// limitOf is the Int that a token says; false, if it is none that may be how many records are asked for.
func limitOf(text string) (api.Item, bool) {
	item, is := literalOf(text)
	return item, is && item.Kind == api.Int && item.Num >= 0 && item.Num <= api.MaxLimit
}

// printed is a literal's text.
func printed(literal api.Item) string {
	text, _ := tuple.Print([]api.Item{literal})
	return text
}
