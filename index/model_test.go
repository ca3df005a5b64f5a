package index_test

import (
	"fmt"
	"math/rand"
	"slices"
	"testing"

	"espalier/api"
	"espalier/index"
	"espalier/node"
	"espalier/tuple"
)

// expected is what Put has to answer, by the chapter's words, of what the table should have.
func (b *bed) expected(r api.Record) (bool, api.Errno) {
	most := node.MostKey(b.room.Size())
	if e := mayBe(r); e != api.OK {
		return false, e
	}
	key := coded(r.Key)
	if len(key) > most {
		return false, api.ErrSize
	}
	for _, x := range b.indexes {
		entry, e := tuple.Encode(append(itemsOf(x, r), r.Key)...)
		if e != api.OK {
			return false, e
		}
		if len(entry) > most {
			return false, api.ErrSize
		}
	}
	for _, x := range b.indexes {
		for at, s := range b.want {
			if x.Unique && at != key && alike(x, r, s) {
				return false, api.ErrUnique
			}
		}
	}
	_, was := b.want[key]
	return was, api.OK
}

// mayBe is the error that says that a record may not be.
func mayBe(r api.Record) api.Errno {
	if _, e := tuple.Encode(r.Key); e != api.OK {
		return e
	}
	if len(r.Fields) > 32 {
		return api.ErrField
	}
	var value []api.Item
	for i, f := range r.Fields {
		if is, known := knownFields[f.Name]; known && !is || i > 0 && r.Fields[i-1].Name >= f.Name {
			return api.ErrField
		}
		value = append(value, word(f.Name), f.Item)
	}
	_, e := tuple.Encode(value...)
	return e
}

// gardener draws records.
type gardener struct {
	r    *rand.Rand
	keys []api.Item
	few  []api.Item
}

func newGardener(r *rand.Rand) *gardener {
	g := &gardener{r: r, few: []api.Item{null(), null(), truth(true), num(1), num(2), num(-1), float(1), word("a"), word("b"), bin("\x00"), list(), list(null()), word(long(20, 't'))}}
	for i := range int64(12) {
		g.keys = append(g.keys, num(i-4), word(fmt.Sprint("k", i)))
	}
	g.keys = append(g.keys, null(), truth(false), float(0.5), list(num(1), list()), bin(""), word(long(40, 'k')))
	return g
}

func (g *gardener) key() api.Item {
	if g.r.Intn(60) == 0 {
		return []api.Item{{Kind: 9}, word(long(62, 'k')), word("\xff"), nested(17), word(long(59, 'k'))}[g.r.Intn(5)]
	}
	return g.keys[g.r.Intn(len(g.keys))]
}

func (g *gardener) item() api.Item {
	switch g.r.Intn(80) {
	case 0:
		return api.Item{Kind: 9}
	case 1:
		return word(long(g.r.Intn(70), 'l'))
	case 2:
		return word(long(g.r.Intn(2000), 'L'))
	}
	return g.few[g.r.Intn(len(g.few))]
}

func (g *gardener) record() api.Record {
	r := api.Record{Key: g.key()}
	names := []string{"a", "b", "c", "d", "e.1"}
	if g.r.Intn(50) == 0 {
		names = append(names, []string{"key", "A", "a", "zz"}[g.r.Intn(4)])
	}
	for _, name := range names {
		if g.r.Intn(3) > 0 {
			r.Fields = append(r.Fields, api.Field{Name: name, Item: g.item()})
		}
	}
	if len(r.Fields) > 1 && g.r.Intn(60) == 0 {
		r.Fields[0], r.Fields[1] = r.Fields[1], r.Fields[0]
	}
	return r
}

// drawnIndexes is some indexes over the fields a to d.
func drawnIndexes(r *rand.Rand) []api.Index {
	var l []api.Index
	for i := range r.Intn(5) {
		fields := []string{"a", "b", "c", "d", "none"}
		r.Shuffle(len(fields), func(i, j int) { fields[i], fields[j] = fields[j], fields[i] })
		l = append(l, api.Index{Name: fmt.Sprint("x", i), Fields: fields[:1+r.Intn(3)], Unique: r.Intn(2) == 0})
	}
	return l
}

// P19.9: drawn rows of puts and deletes beside a list of records: each index has each record once, sorted by its items there and then by keys; Check finds nothing; no two are alike in a Unique index; what was refused has changed nothing.
func TestDrawnRows(t *testing.T) {
	t.Parallel()
	for _, engine := range engines() {
		for _, size := range []int{512, 2048} {
			r := chance()
			refused := map[api.Errno]int{}
			for round := range 6 {
				b := newBed(t, fmt.Sprint("row ", round), engine, size, 4000, drawnIndexes(r)...)
				g := newGardener(r)
				for step := range 250 {
					b.draws(g, refused)
					if step%50 == 49 {
						b.holds(fmt.Sprint("step ", step))
						b.tells(fmt.Sprint("step ", step))
						b.sortedByItems()
					}
				}
			}
			for _, e := range []api.Errno{api.OK, api.ErrItem, api.ErrField, api.ErrUnique} {
				same(t, fmt.Sprint(e, " is answered now and then"), refused[e] > 0, true)
			}
			same(t, "ErrSize is answered now and then", refused[api.ErrSize] > 0 || size > 512, true)
		}
	}
}

// draws makes one drawn change, and holds its answer against what it has to be.
func (b *bed) draws(g *gardener, refused map[api.Errno]int) {
	b.t.Helper()
	if g.r.Intn(4) == 0 {
		key := g.key()
		if _, e := tuple.Encode(key); e == api.OK {
			b.remove(key)
		}
		return
	}
	r := g.record()
	was, e := b.expected(r)
	refused[e]++
	if e != api.OK {
		b.refuses("drawn", r, e)
		stop(b.t)
		return
	}
	is, got := b.x.Put(r)
	same(b.t, b.what+": Put("+form(r)+")", fmt.Sprint(is, got), fmt.Sprint(was, api.OK))
	b.want[coded(r.Key)] = r
}

// sortedByItems holds that each index tells each record once, as tuple.Compare says, and no two alike where that may not be.
func (b *bed) sortedByItems() {
	b.t.Helper()
	for _, x := range b.indexes {
		l, e := told(b.x.Scan(x.Name, nil, nil, true, false))
		same(b.t, "Scan", e, api.OK)
		same(b.t, "how many", len(l), len(b.want))
		for i := 1; i < len(l); i++ {
			p, q := l[i-1], l[i]
			order := tuple.Compare(itemsOf(x, p), itemsOf(x, q))
			if order == 0 {
				order = tuple.Compare([]api.Item{p.Key}, []api.Item{q.Key})
			}
			same(b.t, fmt.Sprintf("%s: %s: %v ahead of %v", b.what, x.Name, p, q), order, -1)
			same(b.t, b.what+": alike in a Unique index", x.Unique && alike(x, p, q), false)
		}
	}
}

// P19.9: several tables in one grove, made, dropped and worked on by turns.
func TestDrawnTables(t *testing.T) {
	t.Parallel()
	for _, engine := range engines() {
		r := chance()
		g := newGardener(r)
		first := newBed(t, "drawn tables", engine, 512, 8000)
		beds := map[string]*bed{"p": first}
		names := []string{"p", "pp", "q", "a.b", long(30, 'n')}
		for step := range 700 {
			name := names[r.Intn(len(names))]
			b, is := beds[name]
			switch {
			case !is:
				l := drawnIndexes(r)
				b = &bed{t: t, what: "the table " + name, room: first.room, g: first.g, name: name, indexes: l, want: map[string]api.Record{}, x: makes(t, first.g, name, l...)}
				beds[name] = b
			case r.Intn(60) == 0:
				same(t, "Drop", index.Drop(first.g, name), api.OK)
				noTable(t, "dropped", b.x)
				delete(beds, name)
				continue
			}
			b.draws(g, map[api.Errno]int{})
			if step%70 == 69 {
				for _, b := range beds {
					b.holds(fmt.Sprint("step ", step))
					b.tells(fmt.Sprint("step ", step))
				}
			}
		}
		var want []string
		for name, b := range beds {
			want = append(want, "t/"+name)
			for _, x := range b.indexes {
				want = append(want, "i/"+name+"/"+x.Name)
			}
		}
		want = append(want, "t-indexes")
		slices.Sort(want)
		sameNames(t, first.g, want...)
	}
}
