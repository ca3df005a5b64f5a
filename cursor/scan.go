package cursor

import (
	"bytes"
	"iter"

	"espalier/api"
)

// Scan goes through the entries from lo on, ahead of hi (hi none: to the end), or the other way round.
func Scan(r api.Room, root int, lo, hi []byte, reverse bool) iter.Seq2[api.Cell, api.Errno] {
	s := span{lo: bytes.Clone(lo), hi: bytes.Clone(hi)}
	return func(yield func(api.Cell, api.Errno) bool) {
		c := New(r, root)
		if c == nil || s.isEmpty() {
			return
		}
		if reverse {
			c.toLastAhead(s.hi)
			c.tell(c.Prev, s.isFromLo, yield)
			return
		}
		c.Seek(s.lo)
		c.tell(c.Next, s.isAheadOfHi, yield)
	}
}

// span is the keys from lo on that stand ahead of hi; without an end, if hi has no byte.
type span struct{ lo, hi []byte }

func (s span) isEmpty() bool { return !s.isAheadOfHi(s.lo) }

func (s span) isFromLo(key []byte) bool { return bytes.Compare(key, s.lo) >= 0 }

func (s span) isAheadOfHi(key []byte) bool { return len(s.hi) == 0 || bytes.Compare(key, s.hi) < 0 }

// toLastAhead goes to the last cell ahead of hi; to the last one of all, if hi has no byte.
func (c *Cursor) toLastAhead(hi []byte) {
	switch {
	case len(hi) == 0:
		c.Last()
	case c.Seek(hi):
		c.Prev()
	case c.Err() == api.OK:
		c.Last()
	}
}

// tell hands out the cells from where the cursor stands on, as long as their keys are within; at last the error, if one was met.
func (c *Cursor) tell(goOn func() bool, isWithin func(key []byte) bool, yield func(api.Cell, api.Errno) bool) {
	for is := c.stands(); is; is = goOn() {
		cell, _ := c.Cell()
		if !isWithin(cell.Key) || !yield(cell, api.OK) {
			return
		}
	}
	if e := c.Err(); e != api.OK {
		yield(api.Cell{}, e)
	}
}
