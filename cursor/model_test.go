package cursor_test

import (
	"fmt"
	"math/rand"
	"slices"
	"sort"
	"strings"
	"testing"

	"espalier/api"
	"espalier/cursor"
	"espalier/pager"
	"espalier/plate"
	"espalier/tree"
)

// anyKey is a key of few letters, short or long, with beginnings that many share.
func anyKey(r *rand.Rand, most int) string {
	n := 1 + r.Intn(6)
	if r.Intn(6) == 0 {
		n = 1 + r.Intn(most)
	}
	b := make([]byte, n)
	for i := range b {
		b[i] = "\x00\x01ab\xfe\xff"[r.Intn(6)]
	}
	if r.Intn(3) == 0 {
		b = append([]byte(strings.Repeat("a", most/2)), b...)
	}
	return string(b[:min(len(b), most)])
}

// anyCell may be in a leaf of pages of that size.
func anyCell(r *rand.Rand, size int) api.Cell {
	key := anyKey(r, size/8)
	switch r.Intn(8) {
	case 0:
		return spill(key, 2+r.Intn(65534), size/16*3+1+r.Intn(1000))
	case 1:
		return named(key, 2+r.Intn(65534), 1+r.Intn(1<<30))
	case 2:
		return named(key, 0, 0)
	case 3:
		return value(key, long(r.Intn(size/16*3+1)))
	}
	return value(key, long(r.Intn(8)))
}

// planted puts so many cells at will into a tree, and takes some out: its root, and its cells by rising keys.
func planted(t *testing.T, r *rand.Rand, room api.Room, root, puts int) (int, []api.Cell) {
	t.Helper()
	is := map[string]api.Cell{}
	var e api.Errno
	for i := range puts {
		c := anyCell(r, room.Size())
		root, _, _, e = tree.Put(room, root, c)
		same(t, "Put", e, api.OK)
		is[string(c.Key)] = c
		if i%4 == 3 {
			key := anyKey(r, room.Size()/8)
			root, _, _, e = tree.Delete(room, root, []byte(key))
			same(t, "Delete", e, api.OK)
			delete(is, key)
		}
	}
	var cells []api.Cell
	for _, c := range is {
		cells = append(cells, c)
	}
	slices.SortFunc(cells, func(a, b api.Cell) int { return strings.Compare(string(a.Key), string(b.Key)) })
	return root, cells
}

// list is a cursor over sorted cells: the place where it stands, -1 or past the last: nowhere.
type list struct {
	cells []api.Cell
	at    int
}

func (l *list) seek(key string) {
	l.at = sort.Search(len(l.cells), func(i int) bool { return string(l.cells[i].Key) >= key })
}

func (l *list) stands() bool { return l.at >= 0 && l.at < len(l.cells) }

// walks goes through a good tree at will, beside the list of its cells.
func walks(t *testing.T, what string, r *rand.Rand, room api.Room, root int, cells []api.Cell, steps int) {
	t.Helper()
	c, l := cursor.New(room, root), &list{cells: cells, at: -1}
	for step := range steps {
		var is bool
		do := r.Intn(30)
		switch {
		case do == 0:
			is = c.First()
			l.at = 0
		case do == 1:
			is = c.Last()
			l.at = len(cells) - 1
		case do < 5:
			key := anyKey(r, room.Size()/8)
			if do == 4 && len(cells) > 0 {
				key = string(cells[r.Intn(len(cells))].Key)
			}
			is = c.Seek([]byte(key))
			l.seek(key)
		case step/40%2 == 0 == (do < 24):
			is = c.Next()
			if l.stands() {
				l.at++
			}
		default:
			is = c.Prev()
			if l.stands() {
				l.at--
			}
		}
		now := fmt.Sprintf("%s, step %d, case %d", what, step, do)
		same(t, now, is, l.stands())
		same(t, now+": Err", c.Err(), api.OK)
		got, e := c.Cell()
		if !l.stands() {
			same(t, now+": Cell", e, api.ErrPos)
			sameCell(t, now+": Cell", got, api.Cell{})
		} else {
			same(t, now+": Cell", e, api.OK)
			sameCell(t, now+": Cell", got, cells[l.at])
		}
		if t.Failed() {
			t.FailNow()
		}
	}
}

// whole goes through all cells of a good tree, both ways, and through some ranges.
func whole(t *testing.T, what string, r *rand.Rand, room api.Room, root int, cells []api.Cell) {
	t.Helper()
	c := cursor.New(room, root)
	var rising, falling []pair
	for is := c.First(); is; is = c.Next() {
		cell, e := c.Cell()
		rising = append(rising, pair{cell, e})
	}
	same(t, what+": Err behind all", c.Err(), api.OK)
	for is := c.Last(); is; is = c.Prev() {
		cell, e := c.Cell()
		falling = append(falling, pair{cell, e})
	}
	same(t, what+": Err ahead of all", c.Err(), api.OK)
	samePairs(t, what+": rising", rising, fine(cells))
	slices.Reverse(falling)
	samePairs(t, what+": falling", falling, fine(cells))
	for range 20 {
		lo, hi, reverse := anyKey(r, room.Size()/8), anyKey(r, room.Size()/8), r.Intn(2) == 0
		if r.Intn(6) == 0 {
			lo = ""
		}
		if r.Intn(6) == 0 {
			hi = ""
		}
		var want []pair
		for _, c := range cells {
			if string(c.Key) >= lo && (hi == "" || string(c.Key) < hi) {
				want = append(want, pair{c: c})
			}
		}
		if reverse {
			slices.Reverse(want)
		}
		samePairs(t, fmt.Sprintf("%s: Scan(%q, %q, %v)", what, lo, hi, reverse), scanned(room, root, lo, hi, reverse, 100000), want)
	}
	if t.Failed() {
		t.FailNow()
	}
}

// P13.6: good trees of either engine and of several page sizes, as tree grows them.
func TestGoodTrees(t *testing.T) {
	r := chance()
	for _, engine := range engines() {
		for _, x := range []struct{ size, puts int }{{512, 0}, {512, 1}, {512, 2}, {512, 10}, {512, 60}, {512, 1500}, {1024, 1200}, {4096, 1500}, {65536, 300}} {
			what := fmt.Sprintf("engine %d, %d bytes, %d puts", engine, x.size, x.puts)
			room := api.NewBench(engine, x.size, 4000)
			root, cells := planted(t, r, room, 0, x.puts)
			whole(t, what, r, room, root, cells)
			steps := 1500
			if x.size > 4096 {
				steps = 150
			}
			walks(t, what, r, room, root, cells, steps)
			if h, _ := tree.Height(room, root); x.size == 512 && x.puts == 1500 && h < 3 {
				t.Errorf("%s: only %d levels", what, h)
			}
		}
	}
}

// P13.6, P13.7: over a pager: cursors of views of earlier commits, and of a transaction, used in turns with changes of the tree that come later.
func TestViewsAndATransaction(t *testing.T) {
	r := chance()
	for _, engine := range engines() {
		p, e := pager.Open(plate.New(512, 3000), engine)
		same(t, "Open", e, api.OK)
		type seen struct {
			v     *pager.View
			root  int
			cells []api.Cell
			c     *cursor.Cursor
			at    int
		}
		var all []*seen
		for commit := range 4 {
			x, e := p.Begin()
			same(t, "Begin", e, api.OK)
			if root, _ := x.Root(); root != 0 {
				same(t, "Drop", tree.Drop(x, root), api.OK)
			}
			root, cells := planted(t, r, x, 0, 100+50*commit)
			whole(t, "a transaction", r, x, root, cells)
			same(t, "SetRoot", x.SetRoot(root, 1), api.OK)
			_, e = x.Commit()
			same(t, "Commit", e, api.OK)
			v, e := p.View()
			same(t, "View", e, api.OK)
			s := &seen{v: v, root: root, cells: cells, c: cursor.New(v, root), at: -1}
			same(t, "First", s.c.First(), true)
			all = append(all, s)
			// Those of earlier commits go on where they stood.
			for n, s := range all {
				for range 7 {
					s.at++
					got, e := s.c.Cell()
					same(t, "Cell", e, api.OK)
					sameCell(t, fmt.Sprintf("view %d, behind commit %d, cell %d", n, commit, s.at), got, s.cells[s.at])
					same(t, "Next", s.c.Next(), true)
				}
				whole(t, fmt.Sprintf("view %d, behind commit %d", n, commit), r, s.v, s.root, s.cells)
			}
		}
		// The room's error is handed on where a page is read.
		s := all[0]
		s.v.Close()
		same(t, "where it stands in a closed view", stands(s.c), string(s.cells[s.at+1].Key))
		same(t, "Last of a closed view", s.c.Last(), false)
		same(t, "Err", s.c.Err(), api.ErrOver)
		same(t, "Scan of a closed view", told(s.v, s.root, "", "", false), "113")
		same(t, "the root 0 of a closed view", told(s.v, 0, "", "", false), "")
	}
}
