package cell_test

import (
	"strings"
	"testing"

	"espalier/cell"
)

// Chapter 15's section Words: 1 to 64 bytes, each one of a to z, 0 to 9, and four signs.
func TestIsName(t *testing.T) {
	const letters = "abcdefghijklmnopqrstuvwxyz0123456789-_./"
	for b := range 256 {
		one := string([]byte{byte(b)})
		want := strings.Contains(letters, one)
		same(t, "a name of one byte", cell.IsName(one), want)
		same(t, "at the end", cell.IsName("a"+one), want)
		same(t, "at the beginning", cell.IsName(one+"a"), want)
	}
	for n := range 70 {
		same(t, "a name's length", cell.IsName(strings.Repeat("n", n)), n >= 1 && n <= 64)
	}
	same(t, "all letters", cell.IsName(letters), true)
	same(t, "a letter of two bytes", cell.IsName("ä"), false)
}
