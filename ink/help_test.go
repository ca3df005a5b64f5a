package ink_test

import (
	"bytes"
	"encoding/hex"
	"math/rand"
	"strings"
	"testing"
)

// raw reads bytes as the document writes them: hexadecimal, with spaces between.
func raw(t *testing.T, text string) []byte {
	t.Helper()
	b, err := hex.DecodeString(strings.ReplaceAll(text, " ", ""))
	if err != nil {
		t.Fatal(err)
	}
	return b
}

func sameBytes(t *testing.T, what string, got, want []byte) {
	t.Helper()
	if !bytes.Equal(got, want) {
		t.Errorf("%s: % X, want % X", what, got, want)
	}
}

func same[T comparable](t *testing.T, what string, got, want T) {
	t.Helper()
	if got != want {
		t.Errorf("%s: %v, want %v", what, got, want)
	}
}

// chance is the same row of numbers in every run.
func chance() *rand.Rand { return rand.New(rand.NewSource(1)) }

func someBytes(r *rand.Rand, n int) []byte {
	b := make([]byte, n)
	r.Read(b)
	return b
}

// shortTexts are all texts of at most most bytes out of those of letters.
func shortTexts(letters string, most int) [][]byte {
	all := [][]byte{nil}
	for from := 0; most > 0; most-- {
		to := len(all)
		for _, begin := range all[from:to] {
			for i := range len(letters) {
				all = append(all, append(bytes.Clone(begin), letters[i]))
			}
		}
		from = to
	}
	return all
}
