package index_test

import (
	"bytes"
	"fmt"
	"slices"
	"testing"

	"espalier/api"
	"espalier/grove"
	"espalier/index"
)

const spareRoom = 64

// roomy lays a text into memory of its own, with marked spare room behind it.
func roomy(text string) []byte {
	return append([]byte(text), bytes.Repeat([]byte{0xa5}, spareRoom)...)[:len(text)]
}

// untouched holds bytes that roomy has laid against what they were, and then writes over them.
func untouched(t *testing.T, what string, b []byte, want string) {
	t.Helper()
	same(t, what+": what was handed in", string(b), want)
	same(t, what+": the spare room", bytes.Count(b[len(b):len(b)+spareRoom], []byte{0xa5}), spareRoom)
	b = b[:cap(b)]
	for i := range b {
		b[i] = 0x77
	}
}

// mark is what stands in the spare room behind lists of items, fields, indexes and names.
const mark = "the spare room"

// roomyItem is an item, its lists with marked spare room behind them, all in memory of its own.
func roomyItem(item api.Item) api.Item {
	if item.Kind != api.List {
		return item
	}
	l := make([]api.Item, 0, len(item.List)+2)
	for _, x := range item.List {
		l = append(l, roomyItem(x))
	}
	item.List = append(l, word(mark), word(mark))[:len(l)]
	return item
}

func roomyRecord(r api.Record) api.Record {
	out := api.Record{Key: roomyItem(r.Key), Fields: make([]api.Field, 0, len(r.Fields)+1)}
	for _, f := range r.Fields {
		out.Fields = append(out.Fields, api.Field{Name: f.Name, Item: roomyItem(f.Item)})
	}
	out.Fields = append(out.Fields, api.Field{Name: mark})[:len(r.Fields)]
	return out
}

func roomyIndexes(l []api.Index) []api.Index {
	out := make([]api.Index, 0, len(l)+1)
	for _, x := range l {
		x.Fields = append(append(make([]string, 0, len(x.Fields)+1), x.Fields...), mark)[:len(x.Fields)]
		out = append(out, x)
	}
	return append(out, api.Index{Name: mark})[:len(l)]
}

// wholeItem is an item as a text, the spare room behind its lists too.
func wholeItem(item api.Item) string {
	text := fmt.Sprint(item.Kind, item.Num, item.Text, len(item.List), "(")
	for _, x := range item.List[:cap(item.List)] {
		text += wholeItem(x)
	}
	return text + ")"
}

func wholeRecord(r api.Record) string {
	text := wholeItem(r.Key)
	for _, f := range r.Fields[:cap(r.Fields)] {
		text += f.Name + wholeItem(f.Item)
	}
	return text
}

func wholeIndexes(l []api.Index) string {
	text := ""
	for _, x := range l[:cap(l)] {
		text += fmt.Sprint(x.Name, x.Unique, x.Fields[:cap(x.Fields)])
	}
	return text
}

// spoilItem writes over an item's lists, and the spare room behind them.
func spoilItem(item api.Item) {
	l := item.List[:cap(item.List)]
	for i := range l {
		spoilItem(l[i])
		l[i] = word("spoilt")
	}
}

func spoilRecord(r api.Record) {
	spoilItem(r.Key)
	l := r.Fields[:cap(r.Fields)]
	for i := range l {
		spoilItem(l[i].Item)
		l[i] = api.Field{Name: "spoilt", Item: word("spoilt")}
	}
}

func spoilIndexes(l []api.Index) {
	l = l[:cap(l)]
	for i := range l {
		fields := l[i].Fields[:cap(l[i].Fields)]
		for j := range fields {
			fields[j] = "spoilt"
		}
		l[i] = api.Index{Name: "spoilt"}
	}
}

// deep is records with lists in lists, as keys and as fields.
func deep() []api.Record {
	return []api.Record{
		rec(list(num(1), list(word("a"), list())), "a", list(num(1), list(num(2))), "b", num(1)),
		rec(list(num(1), list(word("b"))), "a", list(list(list(word("x"))), null())),
		rec(list(), "a", list(), "b", list(list(), list())),
		rec(num(5), "a", word("x"), "b", bin("\x00")),
	}
}

// R2: what is handed in is neither changed, nor the spare room behind it, nor kept: it is written over behind each call.
func TestWhatIsHandedInStays(t *testing.T) {
	for _, engine := range engines() {
		b := &bed{t: t, what: "handed in", room: newRoom(engine, 512, 1000), name: "p", indexes: []api.Index{by("x", "a", "b"), alone("y", "b")}, want: map[string]api.Record{}}
		b.g = grove.Open(b.room, 0, 0)
		indexes := roomyIndexes(b.indexes)
		before := wholeIndexes(indexes)
		x, e := index.Make(b.g, "p", indexes)
		same(t, "Make", fmt.Sprint(x != nil, e), "true 0")
		same(t, "Make: what was handed in", wholeIndexes(indexes), before)
		spoilIndexes(indexes)
		b.x = x
		for round := range 2 {
			for i, r := range deep() {
				in := roomyRecord(r)
				before := wholeRecord(in)
				is, e := b.x.Put(in)
				same(t, "Put", fmt.Sprint(is, e), fmt.Sprint(round > 0, api.OK))
				same(t, "Put: what was handed in", wholeRecord(in), before)
				spoilRecord(in)
				b.want[coded(r.Key)] = r
				b.holds(fmt.Sprint("written over, ", i))
				b.tells(fmt.Sprint("written over, ", i))
			}
		}
		handedIn(t, b)
		for _, r := range deep() {
			key := roomyItem(r.Key)
			before := wholeItem(key)
			is, e := b.x.Delete(key)
			same(t, "Delete", fmt.Sprint(is, e), "true 0")
			same(t, "Delete: what was handed in", wholeItem(key), before)
			spoilItem(key)
			delete(b.want, coded(r.Key))
			b.holds("written over behind a Delete")
		}
	}
}

// handedIn holds what the looks do to what is handed in, and calls that refuse.
func handedIn(t *testing.T, b *bed) {
	t.Helper()
	for _, r := range deep() {
		key := roomyItem(r.Key)
		before := wholeItem(key)
		got, is, e := b.x.Get(key)
		same(t, "Get: what was handed in", wholeItem(key), before)
		spoilItem(key)
		same(t, "Get", fmt.Sprint(form(got), is, e), fmt.Sprint(form(r), true, api.OK))
		in, x := roomyRecord(r), roomyIndexes(b.indexes)
		before, ahead := wholeRecord(in), wholeIndexes(x)
		entry, e := index.Entry(x[0], in)
		same(t, "Entry: what was handed in", wholeRecord(in), before)
		same(t, "Entry: what was handed in", wholeIndexes(x), ahead)
		spoilRecord(in)
		spoilIndexes(x)
		same(t, "Entry", fmt.Sprintf("%q %d", entry, e), fmt.Sprintf("%q 0", entryOf(b.indexes[0], r)))
		in = roomyRecord(r)
		in.Key = roomyItem(list(num(99)))
		if r.Fields[len(r.Fields)-1].Name == "b" {
			before = wholeRecord(in)
			is, e = b.x.Put(in)
			same(t, "Put that is refused", fmt.Sprint(is, e), fmt.Sprint(false, api.ErrUnique))
			same(t, "Put that is refused: what was handed in", wholeRecord(in), before)
		}
	}
	bad := roomyIndexes([]api.Index{by("x", "b", "a", "b")})
	before := wholeIndexes(bad)
	_, e := index.Make(b.g, "q", bad)
	same(t, "Make that is refused", e, api.ErrIndex)
	same(t, "Make that is refused: what was handed in", wholeIndexes(bad), before)
}

// R2: what is answered is the caller's: it may be written over, with the spare room behind it; no other answer changes with it, and nothing in the grove.
func TestWhatIsAnsweredIsNewMemory(t *testing.T) {
	for _, engine := range engines() {
		b := newBed(t, "new memory", engine, 512, 1000, by("x", "a", "b"), alone("y", "b"))
		b.put(deep()...)
		image := b.room.image()
		first, second := b.x.Indexes(), b.x.Indexes()
		spoilIndexes(first)
		same(t, "Indexes: another answer", formsOfIndexes(second), formsOfIndexes(b.indexes))
		second = b.x.Indexes()
		second[0].Fields = append(second[0].Fields, "appended", "appended")
		same(t, "Indexes: another list of the answer", fmt.Sprint(second[1].Fields), "[b]")
		for _, r := range deep() {
			got, _, _ := b.x.Get(r.Key)
			again, _, _ := b.x.Get(r.Key)
			spoilRecord(got)
			same(t, "Get: another answer", form(again), form(r))
			key := roomyItem(r.Key)
			before := wholeItem(key)
			got, _, _ = b.x.Get(key)
			spoilRecord(got)
			same(t, "Get: the key that was handed in", wholeItem(key), before)
			entry, _ := index.Entry(b.indexes[0], r)
			other, _ := index.Entry(b.indexes[0], r)
			clear(entry[:cap(entry)])
			same(t, "Entry: another answer", string(other), entryOf(b.indexes[0], r))
		}
		spoiltRanges(t, b)
		same(t, "the pages", b.room.image() == image, true)
		b.tells("behind all")
	}
}

// spoiltRanges holds that records which are written over while a range goes on change neither what comes nor each other.
func spoiltRanges(t *testing.T, b *bed) {
	t.Helper()
	for i := range len(b.indexes) + 1 {
		var x *api.Index
		name := ""
		if i > 0 {
			x = &b.indexes[i-1]
			name = x.Name
		}
		want := b.between(x, "", "", true)
		kept, _ := told(b.x.Scan(name, nil, nil, true, false))
		n := 0
		for r, e := range b.x.Scan(name, nil, nil, true, false) {
			same(t, "Scan", e, api.OK)
			same(t, "a range whose records are written over", form(r), want[n])
			spoilRecord(r)
			n++
		}
		same(t, "records", n, len(want))
		for i, r := range kept {
			same(t, "a record among others", form(r), want[i])
			spoilRecord(r)
		}
	}
}

// R2: lists of one record share no memory: one is written over, and appended to, and the others stay.
func TestListsOfOneRecord(t *testing.T) {
	for _, engine := range engines() {
		b := newBed(t, "lists of one record", engine, 1024, 1000, by("x", "a"))
		two := func() api.Item { return list(num(1), list(num(2)), list(num(3))) }
		r := rec(two(), "a", two(), "b", two(), "c", two())
		b.put(r)
		for spoilt := range 4 {
			got, _, _ := b.x.Get(r.Key)
			all := []api.Item{got.Key, got.Fields[0].Item, got.Fields[1].Item, got.Fields[2].Item}
			spoilItem(all[spoilt])
			_ = append(all[spoilt].List, word("appended"))
			for i, item := range all {
				same(t, fmt.Sprintf("list %d where %d is spoilt", i, spoilt), fmt.Sprintf("%+v", item) == fmt.Sprintf("%+v", two()), i != spoilt)
			}
		}
		got, _, _ := b.x.Get(r.Key)
		_ = append(got.Fields[0].Item.List[1].List, word("appended"), word("appended"))
		_ = append(got.Fields, api.Field{Name: "appended"})
		same(t, "a record whose lists are appended to", form(got), form(r))
	}
}

// R2: what was answered stays, whatever becomes of the table.
func TestWhatWasAnsweredStays(t *testing.T) {
	for _, engine := range engines() {
		b := stocked(t, "stays", engine)
		var all [][]api.Record
		var want [][]string
		for i := range len(b.indexes) + 1 {
			var x *api.Index
			name := ""
			if i > 0 {
				x = &b.indexes[i-1]
				name = x.Name
			}
			l, e := told(b.x.Scan(name, nil, nil, true, false))
			same(t, "Scan", e, api.OK)
			all, want = append(all, l), append(want, b.between(x, "", "", true))
		}
		indexes := b.x.Indexes()
		for _, r := range slices.Clone(all[0]) {
			b.remove(r.Key)
			b.put(rec(r.Key, "a", word("other")))
		}
		same(t, "Drop", index.Drop(b.g, "p"), api.OK)
		for i, l := range all {
			sameList(t, "what was told", forms(l), want[i])
		}
		same(t, "Indexes", formsOfIndexes(indexes), formsOfIndexes(b.indexes))
	}
}
