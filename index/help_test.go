package index_test

import (
	"fmt"
	"maps"
	"math"
	"math/rand"
	"slices"
	"strings"
	"testing"

	"espalier/api"
	"espalier/grove"
	"espalier/index"
	"espalier/tuple"
)

func engines() []int { return []int{api.Plain, api.Packed} }

// chance is the same row of numbers in every run.
func chance() *rand.Rand { return rand.New(rand.NewSource(19)) }

func same[T comparable](t *testing.T, what string, got, want T) {
	if got != want {
		t.Helper()
		t.Errorf("%.300s: %.300s, want %.300s", what, fmt.Sprintf("%#v", got), fmt.Sprintf("%#v", want))
	}
}

// brief is the beginning of a list, for whole ones are too long to print.
func brief[T any](l []T) string {
	if len(l) > 20 {
		return fmt.Sprintf("%.60q and so on, %d in all", any(l[:20]), len(l))
	}
	return fmt.Sprintf("%.60q", any(l))
}

func sameList[T comparable](t *testing.T, what string, got, want []T) {
	if !slices.Equal(got, want) {
		t.Helper()
		t.Errorf("%.300s: %s, want %s", what, brief(got), brief(want))
	}
}

// stop ends a test that has failed already: what follows from it would only hide what went wrong first.
func stop(t *testing.T) {
	if t.Failed() {
		t.Helper()
		t.FailNow()
	}
}

func null() api.Item { return api.Item{Kind: api.Null} }

func truth(is bool) api.Item {
	if is {
		return api.Item{Kind: api.True}
	}
	return api.Item{Kind: api.False}
}

func num(n int64) api.Item { return api.Item{Kind: api.Int, Num: n} }

func float(f float64) api.Item { return api.Item{Kind: api.Float, Num: int64(math.Float64bits(f))} }

func bin(s string) api.Item { return api.Item{Kind: api.Bytes, Text: s} }

func word(s string) api.Item { return api.Item{Kind: api.Text, Text: s} }

func list(l ...api.Item) api.Item { return api.Item{Kind: api.List, List: l} }

// nested puts that many Lists about the items.
func nested(n int, inside ...api.Item) api.Item {
	item := list(inside...)
	for range n - 1 {
		item = list(item)
	}
	return item
}

func long(n int, b byte) string { return strings.Repeat(string(rune(b)), n) }

// rec is a record of a key, and of names and items by turns.
func rec(key api.Item, l ...any) api.Record {
	r := api.Record{Key: key}
	for i := 0; i+1 < len(l); i += 2 {
		r.Fields = append(r.Fields, api.Field{Name: l[i].(string), Item: l[i+1].(api.Item)})
	}
	return r
}

// numbered is a record with fields f00, f01, and so on.
func numbered(key api.Item, count int, item api.Item) api.Record {
	r := api.Record{Key: key}
	for i := range count {
		r.Fields = append(r.Fields, api.Field{Name: fmt.Sprintf("f%02d", i), Item: item})
	}
	return r
}

// by is an index, alone one in which no two are alike.
func by(name string, fields ...string) api.Index { return api.Index{Name: name, Fields: fields} }

func alone(name string, fields ...string) api.Index {
	return api.Index{Name: name, Fields: fields, Unique: true}
}

// form is a record as a text: alike, just if the records are (an empty list and none are).
func form(r api.Record) string { return fmt.Sprintf("%+v", r) }

func forms(l []api.Record) []string {
	var out []string
	for _, r := range l {
		out = append(out, form(r))
	}
	return out
}

func formsOfIndexes(l []api.Index) string { return fmt.Sprintf("%+v", l) }

// coded is the bytes of items that may be.
func coded(l ...api.Item) string {
	b, e := tuple.Encode(l...)
	if e != api.OK {
		panic(fmt.Sprintf("items that may not be: %v", l))
	}
	return string(b)
}

// valueOf is a record's value's bytes, as the chapter says it.
func valueOf(r api.Record) string {
	out := ""
	for _, f := range r.Fields {
		out += coded(word(f.Name)) + coded(f.Item)
	}
	return out
}

// itemsOf is a record's items in an index's fields.
func itemsOf(x api.Index, r api.Record) []api.Item {
	items := make([]api.Item, len(x.Fields))
	for i, name := range x.Fields {
		for _, f := range r.Fields {
			if f.Name == name {
				items[i] = f.Item
			}
		}
	}
	return items
}

// entryOf is a record's entry in an index.
func entryOf(x api.Index, r api.Record) string {
	return coded(itemsOf(x, r)...) + coded(r.Key)
}

// alike tells whether two records are alike in an index.
func alike(x api.Index, r, s api.Record) bool {
	for i, a := range itemsOf(x, r) {
		b := itemsOf(x, s)[i]
		if a.Kind == api.Null || b.Kind == api.Null || coded(a) != coded(b) {
			return false
		}
	}
	return true
}

// definition is what t-indexes has of a table with these indexes.
func definition(l []api.Index) string {
	out := ""
	for _, x := range l {
		out += "\x17\x16" + x.Name + "\x00\x01"
		if x.Unique {
			out += "\x12\x17"
		} else {
			out += "\x11\x17"
		}
		for _, f := range x.Fields {
			out += "\x16" + f + "\x00\x01"
		}
		out += "\x00\x00"
	}
	return out
}

// pair is a key and a value as texts.
type pair struct{ key, value string }

// pairs is all that a tree has.
func pairs(t *testing.T, g *grove.Grove, tree string) []pair {
	t.Helper()
	var l []pair
	for p, e := range g.Scan(tree, nil, nil, false) {
		same(t, "what the tree "+tree+" has", e, api.OK)
		l = append(l, pair{string(p.Key), string(p.Value)})
	}
	return l
}

// bed is a table in a grove, beside what it should have.
type bed struct {
	t       *testing.T
	what    string
	room    *room
	g       *grove.Grove
	x       *index.Table
	name    string
	indexes []api.Index
	want    map[string]api.Record // by their keys' bytes
}

func newBed(t *testing.T, what string, engine, size, pages int, indexes ...api.Index) *bed {
	t.Helper()
	b := &bed{t: t, what: fmt.Sprintf("%s, engine %d, pages of %d", what, engine, size), room: newRoom(engine, size, pages), name: "p", indexes: indexes, want: map[string]api.Record{}}
	b.g = grove.Open(b.room, 0, 0)
	b.x = makes(t, b.g, b.name, indexes...)
	return b
}

// makes makes a table, which must be made.
func makes(t *testing.T, g *grove.Grove, name string, indexes ...api.Index) *index.Table {
	t.Helper()
	x, e := index.Make(g, name, indexes)
	if e != api.OK || x == nil {
		t.Fatalf("Make of %q: %v, %d", name, x != nil, e)
	}
	return x
}

// over is a bed with the same pages in another room.
func (b *bed) over(r *room) *bed {
	b.t.Helper()
	root, n := b.g.Root()
	c := &bed{t: b.t, what: b.what, room: r, g: grove.Open(r, root, n), name: b.name, indexes: b.indexes, want: maps.Clone(b.want)}
	x, e := index.Open(c.g, c.name)
	if e != api.OK {
		b.t.Fatalf("%s: Open: %d", b.what, e)
	}
	c.x = x
	r.acts = nil
	return c
}

func (b *bed) copied() *bed { return b.over(b.room.copied()) }

// put puts records that must be taken, and holds the answers against what there was.
func (b *bed) put(l ...api.Record) {
	b.t.Helper()
	for _, r := range l {
		key := coded(r.Key)
		_, was := b.want[key]
		is, e := b.x.Put(r)
		same(b.t, fmt.Sprintf("%s: Put(%.100s)", b.what, form(r)), fmt.Sprint(is, e), fmt.Sprint(was, api.OK))
		b.want[key] = r
	}
	stop(b.t)
}

// remove deletes, and holds the answers against what there was.
func (b *bed) remove(l ...api.Item) {
	b.t.Helper()
	for _, key := range l {
		_, was := b.want[coded(key)]
		is, e := b.x.Delete(key)
		same(b.t, fmt.Sprintf("%s: Delete(%v)", b.what, key), fmt.Sprint(is, e), fmt.Sprint(was, api.OK))
		delete(b.want, coded(key))
	}
	stop(b.t)
}

// refuses holds that a record is refused, and that nothing has changed by it.
func (b *bed) refuses(what string, r api.Record, want api.Errno) {
	b.t.Helper()
	b.unchanged(what, func() {
		is, e := b.x.Put(r)
		same(b.t, fmt.Sprintf("%s: %s: Put(%.100s)", b.what, what, form(r)), fmt.Sprint(is, e), fmt.Sprint(false, want))
	})
}

// unchanged holds that a call changes nothing in the grove, and asks the room for nothing but reads.
func (b *bed) unchanged(what string, call func()) {
	b.t.Helper()
	image, from := b.room.image(), len(b.room.acts)
	root, n := b.g.Root()
	call()
	b.room.justRead(b.t, b.what+": "+what, from)
	after, m := b.g.Root()
	same(b.t, b.what+": "+what+": the catalog's root", after, root)
	same(b.t, b.what+": "+what+": how many trees", m, n)
	same(b.t, b.what+": "+what+": the pages", b.room.image() == image, true)
}

// rising is what the table should have, by the entries of an index, or by the keys' bytes, if that is nil; and these beside it.
func (b *bed) rising(x *api.Index) (l []api.Record, at []string) {
	byText := map[string]api.Record{}
	for key, r := range b.want {
		if x != nil {
			key = entryOf(*x, r)
		}
		byText[key] = r
	}
	at = slices.Sorted(maps.Keys(byText))
	for _, key := range at {
		l = append(l, byText[key])
	}
	return l, at
}

// holds holds the table's trees, gone through past the table, against what they should be, byte by byte.
func (b *bed) holds(what string) {
	b.t.Helper()
	what = b.what + ": " + what
	var want []pair
	l, at := b.rising(nil)
	for i, r := range l {
		want = append(want, pair{at[i], valueOf(r)})
	}
	sameList(b.t, what+": the records' tree", pairs(b.t, b.g, "t/"+b.name), want)
	for _, x := range b.indexes {
		want = nil
		_, at := b.rising(&x)
		for _, entry := range at {
			want = append(want, pair{entry, ""})
		}
		sameList(b.t, what+": the tree of "+x.Name, pairs(b.t, b.g, "i/"+b.name+"/"+x.Name), want)
	}
	told, is, e := b.g.Get("t-indexes", []byte(b.name))
	same(b.t, what+": the pair of t-indexes", fmt.Sprintf("%q %v %d", told, is, e), fmt.Sprintf("%q true 0", definition(b.indexes)))
	stop(b.t)
}

// tells holds all that the table tells against what it should tell.
func (b *bed) tells(what string) {
	b.t.Helper()
	what = b.what + ": " + what
	from := len(b.room.acts)
	same(b.t, what+": Indexes", formsOfIndexes(b.x.Indexes()), formsOfIndexes(b.indexes))
	n, e := b.x.Len()
	same(b.t, what+": Len", fmt.Sprint(n, e), fmt.Sprint(len(b.want), api.OK))
	b.checks(what, "", api.OK)
	l, _ := b.rising(nil)
	for _, r := range l {
		got, is, e := b.x.Get(r.Key)
		same(b.t, what+": Get", fmt.Sprint(form(got), is, e), fmt.Sprint(form(r), true, api.OK))
	}
	b.scans(what, nil, "", "", true)
	for _, x := range b.indexes {
		b.scans(what, &x, "", "", true)
	}
	b.room.justRead(b.t, what, from)
	stop(b.t)
}

// scans holds both ranges of an index (of none by the keys) against what they should tell.
func (b *bed) scans(what string, x *api.Index, lo, hi string, open bool) {
	b.t.Helper()
	name := ""
	if x != nil {
		name = x.Name
	}
	want := b.between(x, lo, hi, open)
	for _, reverse := range []bool{false, true} {
		l, e := told(b.x.Scan(name, []byte(lo), []byte(hi), open, reverse))
		about := fmt.Sprintf("%s: Scan(%q, %.40q, %.40q, %v, %v)", what, name, lo, hi, open, reverse)
		same(b.t, about, e, api.OK)
		sameList(b.t, about, forms(l), want)
		slices.Reverse(want)
	}
}

// between is the records that a range should tell, rising.
func (b *bed) between(x *api.Index, lo, hi string, open bool) []string {
	var want []string
	l, at := b.rising(x)
	for i, r := range l {
		if at[i] >= lo && (open || at[i] < hi) {
			want = append(want, form(r))
		}
	}
	return want
}

// told is what a range tells, and the error that it tells at last; -1, if something stands beside an error, or behind it.
func told(all func(func(api.Record, api.Errno) bool)) ([]api.Record, api.Errno) {
	var l []api.Record
	end := api.OK
	for r, e := range all {
		if end != api.OK || e != api.OK && form(r) != form(api.Record{}) {
			return nil, -1
		}
		if end = e; e == api.OK {
			l = append(l, r)
		}
	}
	return l, end
}

// checks holds what Check answers.
func (b *bed) checks(what, name string, want api.Errno) {
	b.t.Helper()
	got, e := b.x.Check()
	same(b.t, what+": Check", fmt.Sprintf("%q %d", got, e), fmt.Sprintf("%q %d", name, want))
}
