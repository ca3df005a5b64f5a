package packed

import (
	"math/bits"

	"espalier/api"
	"espalier/ink"
)

// How many bytes numbers of a fixed width have in a page.
const (
	kindLen = 1
	slotLen = 2
)

// uintLen tells how long ink.Uint of n is, which has seven bits in each byte.
func uintLen(n uint64) int { return (bits.Len64(n|1) + 6) / 7 }

// textLen tells how many bytes a text of n bytes takes, with its length ahead of it.
func textLen(n int) int { return uintLen(uint64(n)) + n }

// tailLen tells how many bytes of the cell stand behind its key.
func tailLen(c api.Cell) int {
	if c.Kind == api.CellValue {
		return textLen(len(c.Value))
	}
	return uintLen(uint64(c.Page)) + uintLen(uint64(c.Count))
}

// entry is a cell whose key stands in two pieces: head, and then the cell's own. So a cell of a page can be laid elsewhere without its key being put together.
type entry struct {
	head []byte
	cell api.Cell
}

// rest is what stands in the key behind its first n bytes, in two pieces.
func (e entry) rest(n int) ([]byte, []byte) {
	if n <= len(e.head) {
		return e.head[n:], e.cell.Key
	}
	return nil, e.cell.Key[n-len(e.head):]
}

// withKey is b with the key behind it.
func (e entry) withKey(b []byte) []byte { return append(append(b, e.head...), e.cell.Key...) }

// key is the key, in memory of its own.
func (e entry) key() []byte {
	return e.withKey(make([]byte, 0, len(e.head)+len(e.cell.Key)))
}

// copied is the cell with a key and a value of its own.
func (e entry) copied() api.Cell {
	c := e.cell
	c.Key = e.key()
	c.Value = make([]byte, len(e.cell.Value))
	copy(c.Value, e.cell.Value)
	return c
}

// appended is b with the cell's bytes behind it, but for the first n of its key. The cell is one that may be.
func (e entry) appended(b []byte, n int) []byte {
	first, second := e.rest(n)
	b = append(b, byte(e.cell.Kind))
	b = append(b, ink.Uint(uint64(len(first)+len(second)))...)
	b = append(append(b, first...), second...)
	if e.cell.Kind == api.CellValue {
		b = append(b, ink.Uint(uint64(len(e.cell.Value)))...)
		return append(b, e.cell.Value...)
	}
	b = append(b, ink.Uint(uint64(e.cell.Page))...)
	return append(b, ink.Uint(uint64(e.cell.Count))...)
}

// reader goes through bytes that may be no cells'.
type reader struct {
	b     []byte
	at    int
	wrong bool // they are none
}

func (r *reader) number() uint64 {
	n, at, e := ink.ReadUint(r.b, r.at)
	if e != api.OK {
		r.wrong = true
		return 0
	}
	r.at = at
	return n
}

// text is a piece of the bytes, cut off so that nothing behind it can be reached from it.
func (r *reader) text() []byte {
	n := r.number()
	if n > uint64(len(r.b)-r.at) {
		r.wrong = true
		return nil
	}
	from := r.at
	r.at += int(n)
	return r.b[from:r.at:r.at]
}

func (r *reader) kind() int {
	n, e := ink.ReadFixed(r.b, r.at, kindLen)
	if e != api.OK {
		r.wrong = true
		return 0
	}
	r.at += kindLen
	return int(n)
}

// cell is the next one, whether it may be or not, with the rest of its key as the key; this and its value are pieces of the bytes.
func (r *reader) cell() api.Cell {
	var c api.Cell
	c.Kind = r.kind()
	c.Key = r.text()
	if c.Kind == api.CellValue {
		c.Value = r.text()
		return c
	}
	c.Page = int(r.number())
	c.Count = int(r.number())
	return c
}
