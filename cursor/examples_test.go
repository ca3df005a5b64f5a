package cursor_test

import (
	"fmt"
	"strings"
	"testing"

	"espalier/api"
	"espalier/cursor"
	"espalier/node"
)

// laid is the tree of the chapter's table on a bench: its root, page 7, is a branch with the leaves a b, page 5, and c d, page 6.
func laid(t *testing.T, engine int) *api.Bench {
	t.Helper()
	r := api.NewBench(engine, 512, 40)
	lay := func(page, kind int, cells ...api.Cell) {
		b, e := node.Encode(engine, kind, cells, 512)
		same(t, "Encode", e, api.OK)
		same(t, "Lay", r.Lay(page, b), api.OK)
	}
	lay(5, api.PageLeaf, values("a", "b")...)
	lay(6, api.PageLeaf, values("c", "d")...)
	lay(7, api.PageBranch, lead("", 5), lead("c", 6))
	return r
}

// stands is the key of the cell where a cursor stands, or the number of Cell's error.
func stands(c *cursor.Cursor) string {
	cell, e := c.Cell()
	if e != api.OK {
		return fmt.Sprint(int(e))
	}
	return string(cell.Key)
}

// told is the keys that a range tells, and the numbers of errors.
func told(r api.Room, root int, lo, hi string, reverse bool) string {
	var l []string
	for _, p := range scanned(r, root, lo, hi, reverse, 1000) {
		if p.e != api.OK {
			l = append(l, fmt.Sprint(int(p.e)))
			continue
		}
		l = append(l, string(p.c.Key))
	}
	return strings.Join(l, " ")
}

// The chapter's table: each row a test of its own.
func TestExampleOfNew(t *testing.T) {
	for _, engine := range engines() {
		r := laid(t, engine)
		same(t, "New(nil, 2)", cursor.New(nil, 2) == nil, true)
		c := cursor.New(r, 7)
		same(t, "Cell", stands(c), "130")
		same(t, "Next", c.Next(), false)
		same(t, "Err", c.Err(), api.OK)
	}
}

func TestExampleOfFirst(t *testing.T) {
	for _, engine := range engines() {
		c := cursor.New(laid(t, engine), 7)
		same(t, "First", c.First(), true)
		same(t, "Cell", stands(c), "a")
		same(t, "Next", c.Next(), true)
		same(t, "Next", c.Next(), true)
		same(t, "Cell", stands(c), "c")
		same(t, "Prev", c.Prev(), true)
		same(t, "Cell", stands(c), "b")
	}
}

func TestExampleOfLast(t *testing.T) {
	for _, engine := range engines() {
		c := cursor.New(laid(t, engine), 7)
		same(t, "Last", c.Last(), true)
		same(t, "Cell", stands(c), "d")
		same(t, "Next", c.Next(), false)
		same(t, "Cell", stands(c), "130")
		same(t, "Prev", c.Prev(), false)
	}
}

func TestExampleOfSeek(t *testing.T) {
	for _, engine := range engines() {
		c := cursor.New(laid(t, engine), 7)
		same(t, "Seek(b)", c.Seek([]byte("b")), true)
		same(t, "Cell", stands(c), "b")
		same(t, "Seek(bb)", c.Seek([]byte("bb")), true)
		same(t, "Cell", stands(c), "c")
		same(t, "Seek(e)", c.Seek([]byte("e")), false)
		same(t, "Err", c.Err(), api.OK)
		same(t, "Seek()", c.Seek(nil), true)
		same(t, "Cell", stands(c), "a")
	}
}

func TestExamplesOfScan(t *testing.T) {
	for _, engine := range engines() {
		r := laid(t, engine)
		same(t, "Scan(b, d)", told(r, 7, "b", "d", false), "b c")
		same(t, "Scan(b, d, reverse)", told(r, 7, "b", "d", true), "c b")
		same(t, "Scan(, , reverse)", told(r, 7, "", "", true), "d c b a")
		same(t, "Scan(c, c)", told(r, 7, "c", "c", false), "")
		same(t, "Scan(d, )", told(r, 7, "d", "", false), "d")
	}
}

func TestExamplesOfALostPage(t *testing.T) {
	for _, engine := range engines() {
		r := laid(t, engine)
		r.Free(6)
		c := cursor.New(r, 7)
		same(t, "First", c.First(), true)
		same(t, "Next", c.Next(), true)
		same(t, "Next", c.Next(), false)
		same(t, "Err", c.Err(), api.ErrPage)
		same(t, "Cell", stands(c), "130")
		same(t, "Scan(, )", told(r, 7, "", "", false), "a b 30")
	}
}

func TestExampleOfTheEmptyTree(t *testing.T) {
	for _, engine := range engines() {
		c := cursor.New(laid(t, engine), 0)
		same(t, "First", c.First(), false)
		same(t, "Err", c.Err(), api.OK)
	}
}
