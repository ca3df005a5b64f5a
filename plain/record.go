package plain

import (
	"espalier/api"
	"espalier/ink"
)

// How many bytes numbers have in a page.
const (
	kindLen   = 1
	lengthLen = 2 // of a text's length
	numberLen = 4 // of a cell's Page, and its Count
	slotLen   = 2
)

// taken tells how many bytes of a page the cell takes, with its slot.
func taken(c api.Cell) int {
	n := slotLen + kindLen + lengthLen + len(c.Key)
	if c.Kind == api.CellValue {
		return n + lengthLen + len(c.Value)
	}
	return n + 2*numberLen
}

// appended is b with the bytes of a cell that may be behind it.
func appended(b []byte, c api.Cell) []byte {
	b = append(b, byte(c.Kind))
	b = appendedText(b, c.Key)
	if c.Kind == api.CellValue {
		return appendedText(b, c.Value)
	}
	b = append(b, ink.Fixed(uint64(c.Page), numberLen)...)
	return append(b, ink.Fixed(uint64(c.Count), numberLen)...)
}

func appendedText(b, text []byte) []byte {
	return append(append(b, ink.Fixed(uint64(len(text)), lengthLen)...), text...)
}

// reader goes through bytes that may be no cells'.
type reader struct {
	b     []byte
	at    int
	ended bool // too early
}

func (r *reader) number(width int) int {
	n, e := ink.ReadFixed(r.b, r.at, width)
	if e != api.OK {
		r.ended = true
		return 0
	}
	r.at += width
	return int(n)
}

// text is a piece of the bytes, cut off so that nothing behind it can be reached from it.
func (r *reader) text() []byte {
	n := r.number(lengthLen)
	if n > len(r.b)-r.at {
		r.ended = true
		return nil
	}
	from := r.at
	r.at += n
	return r.b[from:r.at:r.at]
}

// cell is the next one, whether it may be or not; its key and its value are pieces of the bytes.
func (r *reader) cell() api.Cell {
	var c api.Cell
	c.Kind = r.number(kindLen)
	c.Key = r.text()
	if c.Kind == api.CellValue {
		c.Value = r.text()
		return c
	}
	c.Page = r.number(numberLen)
	c.Count = r.number(numberLen)
	return c
}

// copied is the cell with a key and a value of its own.
func copied(c api.Cell) api.Cell {
	c.Key, c.Value = copiedBytes(c.Key), copiedBytes(c.Value)
	return c
}

func copiedBytes(b []byte) []byte {
	own := make([]byte, len(b))
	copy(own, b)
	return own
}
