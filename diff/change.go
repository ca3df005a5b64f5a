package diff

import (
	"bytes"

	"espalier/api"
	"espalier/spill"
)

// change is what a meeting comes to.
func (l looks) change(name string, m meeting) (api.Change, api.Errno) {
	c := api.Change{Tree: name, Was: m.was, Is: m.is}
	if m.was {
		value, e := l.from.value(m.old)
		if e != api.OK {
			return api.Change{}, e
		}
		c.Key, c.Old = m.old.Key, value
	}
	if m.is {
		value, e := l.to.value(m.new)
		if e != api.OK {
			return api.Change{}, e
		}
		c.Key, c.New = m.new.Key, value
	}
	return c, api.OK
}

// isNone tells whether nothing differs where the cells do: a value was laid once more.
func isNone(c api.Change) bool { return c.Was && c.Is && bytes.Equal(c.Old, c.New) }

// value is the value of a cell, wherever it lies.
func (l look) value(c api.Cell) ([]byte, api.Errno) {
	switch c.Kind {
	case api.CellValue:
		return c.Value, api.OK
	case api.CellSpill:
		return spill.Read(l.room, c.Page, c.Count)
	}
	return nil, api.ErrTree
}
