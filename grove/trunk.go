package grove

import (
	"iter"

	"espalier/api"
	"espalier/cursor"
	"espalier/tree"
)

// trunk is what is common to all trees of a grove, the catalog among them: a room, the root that they have there, and how many cells.
type trunk struct {
	room        api.Room
	root, count int
}

func (t *trunk) find(key []byte) (api.Cell, bool, api.Errno) {
	return tree.Get(t.room, t.root, key)
}

func (t *trunk) rank(key []byte) (int, api.Errno) { return tree.Rank(t.room, t.root, key) }

func (t *trunk) at(i int) (api.Cell, bool, api.Errno) { return tree.At(t.room, t.root, i) }

func (t *trunk) cells(lo, hi []byte, reverse bool) iter.Seq2[api.Cell, api.Errno] {
	return cursor.Scan(t.room, t.root, lo, hi, reverse)
}

func (t *trunk) lay(c api.Cell) api.Errno {
	root, _, was, e := tree.Put(t.room, t.root, c)
	if e != api.OK {
		return e
	}
	t.root = root
	if !was {
		t.count++
	}
	return api.OK
}

func (t *trunk) remove(key []byte) api.Errno {
	root, _, was, e := tree.Delete(t.room, t.root, key)
	if e != api.OK {
		return e
	}
	t.root = root
	if was {
		t.count--
	}
	return api.OK
}

// need is how many pages a change of the tree may ask for.
func (t *trunk) need() (int, api.Errno) {
	height, e := tree.Height(t.room, t.root)
	if e != api.OK {
		return 0, e
	}
	return tree.Need(height), api.OK
}
