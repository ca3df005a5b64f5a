package query

import "strings"

// Kinds of tokens.
const (
	tokenEnd    = iota // of the question
	tokenWord          // also keywords and numbers
	tokenQuoted        // also bytes
	tokenSign
	tokenBroken
	tokenBeyond // one more than a question may have
)

// token is a piece of a question, and where it begins. What may stand nowhere has no text.
type token struct {
	kind int
	text string
	at   int
}

const (
	blanks    = " \t\n\r"
	signs     = "(),=<>"
	bytesMark = "x'"
	wordEnds  = blanks + signs + `"'`
)

// tokenAt is the first token from a place on.
func tokenAt(text string, at int) token {
	rest := strings.TrimLeft(text[at:], blanks)
	at = len(text) - len(rest)
	if rest == "" {
		return token{tokenEnd, "", at}
	}
	kind, n := firstToken(rest)
	if n == 0 {
		kind = tokenBroken
	}
	return token{kind, rest[:n], at}
}

// firstToken is the kind of the token that a text begins with, and how many bytes it has there; 0, if it is broken.
func firstToken(text string) (kind, n int) {
	switch {
	case text[0] == '"':
		return tokenQuoted, quotedEnd(text)
	case strings.HasPrefix(text, bytesMark):
		return tokenQuoted, bytesEnd(text)
	case strings.IndexByte(signs, text[0]) >= 0:
		return tokenSign, signEnd(text)
	}
	return tokenWord, wordEnd(text)
}

func quotedEnd(text string) int {
	for i := 1; i < len(text); i++ {
		switch text[i] {
		case '\\':
			i++
		case '"':
			return i + 1
		}
	}
	return 0
}

func bytesEnd(text string) int {
	inside, _, is := strings.Cut(text[len(bytesMark):], "'")
	if !is {
		return 0
	}
	return len(bytesMark) + len(inside) + 1
}

func signEnd(text string) int {
	switch text[:min(2, len(text))] {
	case "<>", "<=", ">=":
		return 2
	}
	return 1
}

func wordEnd(text string) int {
	n := strings.IndexAny(text, wordEnds)
	if n < 0 {
		return len(text)
	}
	return n
}
