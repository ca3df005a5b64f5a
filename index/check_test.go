package index_test

import (
	"fmt"
	"slices"
	"strings"
	"testing"

	"espalier/api"
	"espalier/index"
	"espalier/tuple"
)

// lay puts a pair into a tree, past the table; pluck takes one away.
func (b *bed) lay(tree, key, value string) {
	b.t.Helper()
	if _, e := b.g.Put(tree, []byte(key), []byte(value)); e != api.OK {
		b.t.Fatalf("Put into %s: %d", tree, e)
	}
}

func (b *bed) pluck(tree, key string) {
	b.t.Helper()
	if was, e := b.g.Delete(tree, []byte(key)); e != api.OK || !was {
		b.t.Fatalf("Delete of %q in %s: %v, %d", key, tree, was, e)
	}
}

// finds holds what Check answers, and that it changes nothing.
func (b *bed) finds(what, name string, want api.Errno) {
	b.t.Helper()
	b.unchanged(what, func() { b.checks(b.what+": "+what, name, want) })
}

// checked is a table of three indexes, the second one Unique, with some records.
func checked(t *testing.T, what string, engine int) *bed {
	t.Helper()
	b := newBed(t, what, engine, 512, 1000, by("x", "a"), alone("u", "b"), by("z", "c", "a"))
	for i := range int64(12) {
		b.put(rec(num(i), "a", num(i%3), "b", num(i*5), "c", word(fmt.Sprint(i%4))))
	}
	b.put(rec(num(100)), rec(num(101), "b", null()))
	b.finds("as it was made", "", api.OK)
	return b
}

// P19.7: a pair in t-indexes that is not as Make writes it.
func TestCheckOfThePair(t *testing.T) {
	for _, engine := range engines() {
		b := checked(t, "the pair", engine)
		x := list(word("x"), truth(false), list(word("a")))
		with := func(l ...api.Item) string { return coded(l...) }
		var many []api.Item
		for i := range 17 {
			many = append(many, list(word(fmt.Sprint("x", i)), truth(false), list(word("a"))))
		}
		fields := func(l ...api.Item) api.Item { return list(word("x"), truth(false), list(l...)) }
		nine := []api.Item{word("a"), word("b"), word("c"), word("d"), word("e"), word("f"), word("g"), word("h"), word("i")}
		for what, value := range map[string]string{
			"no tuple": "\xff", "a tuple that is cut": "\x17", "bytes": "x", "a tuple with something behind it": with(x) + "\x00", "a value that is too long": strings.Repeat("\x10", 65),
			"no List": with(null()), "a Text": with(word("x")), "a List and a Text": with(x, word("x")), "a List of none": with(list()),
			"a List of two": with(list(word("x"), truth(false))), "a List of four": with(list(word("x"), truth(false), list(word("a")), null())), "a List too many about it": with(list(x)),
			"a name that is no Text": with(list(bin("x"), truth(false), list(word("a")))), "a name that is none": with(list(word("X"), truth(false), list(word("a")))), "the empty name": with(list(word(""), truth(false), list(word("a")))), "a name of 31 bytes": with(list(word(long(31, 'x')), truth(false), list(word("a")))),
			"neither True nor False": with(list(word("x"), null(), list(word("a")))), "a number": with(list(word("x"), num(1), list(word("a")))), "fields that are no List": with(list(word("x"), truth(false), word("a"))),
			"no fields": with(fields()), "nine fields": with(fields(nine...)), "a field twice": with(fields(word("a"), word("b"), word("a"))), "the field key": with(fields(word("key"))), "a field that is no Text": with(fields(word("a"), bin("b"))), "a field that is no name": with(fields(word("0"))),
			"two of one name": with(x, x), "17 indexes": with(many...), "a good one and a bad one": with(x, fields()),
		} {
			c := b.copied()
			c.lay("t-indexes", "p", value)
			c.finds(what, "", api.ErrTable)
			c.lay("t/p", "\xff", "")
			c.pluck("i/p/x", entryOf(b.indexes[0], b.want[coded(num(0))]))
			c.finds(what+", and more", "", api.ErrTable)
		}
		b.pluck("t-indexes", "p")
		b.finds("no pair", "", api.ErrTable)
	}
}

// P19.7: a pair in t-indexes that is another table's, but as Make writes it, tells which indexes are looked at.
func TestCheckOfAnotherPair(t *testing.T) {
	for _, engine := range engines() {
		b := checked(t, "another pair", engine)
		b.pluck("i/p/z", entryOf(b.indexes[2], b.want[coded(num(3))]))
		for _, c := range []struct {
			what    string
			indexes []api.Index
			name    string
			want    api.Errno
		}{
			{"no index", nil, "", api.OK}, {"the first alone", b.indexes[:1], "", api.OK}, {"the first two", b.indexes[:2], "", api.OK}, {"all", b.indexes, "z", api.ErrIndex},
			{"one that is Unique now", []api.Index{alone("x", "a")}, "x", api.ErrUnique}, {"one that is Unique no more", []api.Index{by("u", "b")}, "", api.OK},
			{"another field", []api.Index{by("x", "b")}, "x", api.ErrIndex}, {"one that has no tree", []api.Index{by("y", "a")}, "y", api.ErrIndex}, {"another order", []api.Index{b.indexes[2], b.indexes[0]}, "z", api.ErrIndex},
			{"one that has no tree, at last", []api.Index{b.indexes[0], b.indexes[1], by("y", "a")}, "y", api.ErrIndex},
		} {
			b.lay("t-indexes", "p", definition(c.indexes))
			b.finds(c.what, c.name, c.want)
		}
	}
}

// P19.7: the records' tree is not there: that comes ahead of whatever else is wrong but the pair.
func TestCheckOfNoRecordsTree(t *testing.T) {
	for _, engine := range engines() {
		b := checked(t, "no records' tree", engine)
		same(t, "Drop", b.g.Drop("t/p"), api.OK)
		b.finds("gone", "", api.ErrTable)
		same(t, "Drop", b.g.Drop("i/p/x"), api.OK)
		b.finds("gone, an index too", "", api.ErrTable)
		same(t, "Make", b.g.Make("t/p"), api.OK)
		b.finds("an empty one, and no index's tree", "x", api.ErrIndex)
		same(t, "Make", b.g.Make("i/p/x"), api.OK)
		b.finds("an empty one", "u", api.ErrIndex)
	}
}

// noRecords is pairs that are no record's.
func noRecords() map[string]pair {
	key := coded(num(5))
	many := ""
	for i := range 33 {
		many += coded(word(fmt.Sprintf("f%02d", i)), num(1))
	}
	return map[string]pair{
		"a key that is no tuple": {"\xff", ""}, "a key that is cut": {"\x13", ""}, "a key that is cut, of a Text": {"\x16a", ""}, "a key of two items": {key + key, ""}, "a key of 64 items": {long(64, '\x10'), ""}, "a key that is no least form": {"\x13\x81\x00", ""}, "zeros": {"\x00", ""},
		"a value that is no tuple": {key, "\xff"}, "a value that is cut": {key, "\x16a\x00\x01\x13"}, "a name alone": {key, coded(word("a"))}, "three items": {key, coded(word("a"), num(1), word("b"))},
		"a name that is Bytes": {key, coded(bin("a"), num(1))}, "a name that is a number": {key, coded(num(1), num(1))}, "a second name that is none": {key, coded(word("a"), num(1), null(), num(1))},
		"the name key": {key, coded(word("key"), num(1))}, "a name with a great letter": {key, coded(word("A"), num(1))}, "the empty name": {key, coded(word(""), num(1))}, "a name of 65 bytes": {key, coded(word(long(65, 'a')), num(1))}, "a name that begins with a digit": {key, coded(word("0a"), num(1))},
		"names that fall": {key, coded(word("b"), num(1), word("a"), num(1))}, "a name twice": {key, coded(word("a"), num(1), word("a"), num(1))}, "33 fields": {key, many},
	}
}

// P19.7: a pair that is no record's, in the place of one or beside them; it comes ahead of whatever is wrong with indexes.
func TestCheckOfNoRecords(t *testing.T) {
	for _, engine := range engines() {
		b := checked(t, "no records", engine)
		for what, p := range noRecords() {
			c := b.copied()
			c.lay("t/p", p.key, p.value)
			c.finds(what, "", api.ErrField)
			c.lay("i/p/x", "\x10", "")
			c.finds(what+", and a foreign entry", "", api.ErrField)
			same(t, "Drop", c.g.Drop("i/p/u"), api.OK)
			c.finds(what+", and no index's tree", "", api.ErrField)
		}
		for _, key := range []api.Item{num(0), num(7), num(101)} {
			c := b.copied()
			c.lay("t/p", coded(key), "\x10")
			c.finds("at the beginning, in the midst, at the end", "", api.ErrField)
		}
		none := newBed(t, "no index", engine, 512, 400)
		none.put(rec(num(1), "a", num(1)))
		none.finds("a table without indexes", "", api.OK)
		none.lay("t/p", "\x00", "")
		none.finds("a table without indexes", "", api.ErrField)
	}
}

// P19.7: an index's tree that is gone, has an entry too few, one too many, or one with a value, wherever it stands.
func TestCheckOfIndexes(t *testing.T) {
	for _, engine := range engines() {
		b := checked(t, "indexes", engine)
		for _, x := range b.indexes {
			tree := "i/p/" + x.Name
			c := b.copied()
			same(t, "Drop", c.g.Drop(tree), api.OK)
			c.finds(x.Name+": no tree", x.Name, api.ErrIndex)
			same(t, "Make", c.g.Make(tree), api.OK)
			c.finds(x.Name+": an empty tree", x.Name, api.ErrIndex)
			_, at := b.rising(&x)
			for i, entry := range at {
				what := fmt.Sprintf("%s: entry %d", x.Name, i)
				c := b.copied()
				c.pluck(tree, entry)
				c.finds(what+" too few", x.Name, api.ErrIndex)
				c.lay(tree, entry+"\x10", "")
				c.finds(what+", another in its place", x.Name, api.ErrIndex)
				c.pluck(tree, entry+"\x10")
				c.lay(tree, entry, "v")
				c.finds(what+" with a value", x.Name, api.ErrIndex)
				c.lay(tree, entry, long(3000, 'v'))
				c.finds(what+" with a long value", x.Name, api.ErrIndex)
				c.lay(tree, entry, "")
				c.finds(what+" as it was", "", api.OK)
				for _, more := range []string{entry[:len(entry)-1], entry + "\x00", "\x00", "\xff", entry[:1]} {
					c.lay(tree, more, "")
					c.finds(what+" and one too many", x.Name, api.ErrIndex)
					c.pluck(tree, more)
				}
			}
		}
	}
}

// P19.7: records that somebody else has changed, with entries as they were.
func TestCheckOfOtherRecords(t *testing.T) {
	for _, engine := range engines() {
		b := checked(t, "other records", engine)
		for what, c := range map[string]struct {
			r    api.Record
			name string
		}{
			"another a": {rec(num(5), "a", num(9), "b", num(25), "c", word("1")), "x"}, "another b": {rec(num(5), "a", num(2), "b", num(26), "c", word("1")), "u"}, "another c": {rec(num(5), "a", num(2), "b", num(25), "c", word("2")), "z"},
			"no fields": {rec(num(5)), "x"}, "a new record": {rec(num(50), "a", num(1)), "x"}, "an item that fits in no entry": {rec(num(5), "a", word(long(300, 'a'))), "x"},
			"one of which there is no entry": {rec(word(long(40, 'k')), "a", word(long(65500, 'a'))), "x"}, "another field": {rec(num(5), "a", num(2), "b", num(25), "c", word("1"), "d", num(1)), ""}, "a Float": {rec(num(5), "a", float(2), "b", num(25), "c", word("1")), "x"},
		} {
			d := b.copied()
			d.lay("t/p", coded(c.r.Key), valueOf(c.r))
			want := api.ErrIndex
			if c.name == "" {
				want = api.OK
			}
			d.finds(what, c.name, want)
		}
		b.pluck("t/p", coded(num(5)))
		b.finds("a record gone", "x", api.ErrIndex)
	}
}

// P19.7: two records alike in a Unique index, all entries being there.
func TestCheckOfAlikeRecords(t *testing.T) {
	for _, engine := range engines() {
		for _, c := range []struct {
			what  string
			items []api.Item
			want  api.Errno
		}{
			{"two alike", []api.Item{num(1), num(2), num(1)}, api.ErrUnique}, {"three alike", []api.Item{num(1), num(1), num(1)}, api.ErrUnique}, {"none alike", []api.Item{num(1), num(2), num(3)}, api.OK},
			{"Nulls", []api.Item{null(), null(), num(1)}, api.OK}, {"Lists of a Null", []api.Item{list(null()), num(1), list(null())}, api.ErrUnique}, {"empty Lists", []api.Item{list(), num(1), list()}, api.ErrUnique},
			{"an Int and a Float", []api.Item{num(1), float(1), word("1")}, api.OK}, {"one that begins another", []api.Item{word("a"), word("ab"), word("")}, api.OK}, {"empty Texts", []api.Item{word(""), null(), word("")}, api.ErrUnique},
		} {
			b := newBed(t, c.what, engine, 512, 400, by("n", "a"), alone("u", "a"), alone("v", "b", "a"))
			for i, item := range c.items {
				b.layRecord(rec(num(int64(i)), "a", item, "b", num(int64(i))))
			}
			if c.want == api.OK {
				b.finds(c.what, "", api.OK)
				continue
			}
			b.finds(c.what, "u", c.want)
			d := b.copied()
			d.lay("i/p/n", "\x10", "")
			d.finds(c.what+", and the index ahead of it", "n", api.ErrIndex)
			d = b.copied()
			d.lay("i/p/v", "\x10", "")
			d.finds(c.what+", and the index behind it", "u", api.ErrUnique)
			d = b.copied()
			d.lay("i/p/u", "\x10", "")
			d.finds(c.what+", and an entry too many", "u", api.ErrIndex)
			d = b.copied()
			d.layRecord(rec(num(50), "a", num(7), "b", num(7)))
			d.layRecord(rec(num(51), "a", num(7), "b", num(7)))
			d.finds(c.what+", and in the next one", "u", api.ErrUnique)
			same(t, "Drop", d.g.Drop("i/p/v"), api.OK)
			d.finds(c.what+", and no tree of the next one", "u", api.ErrUnique)
		}
		b := newBed(t, "in the last one", engine, 512, 400, by("n", "a"), alone("u", "a"), alone("v", "b", "c"))
		b.layRecord(rec(num(1), "a", num(1), "b", num(1), "c", num(1)))
		b.layRecord(rec(num(2), "a", num(2), "b", num(1), "c", num(1)))
		b.finds("alike in the last one", "v", api.ErrUnique)
		b.layRecord(rec(num(3), "a", num(3), "b", num(1)))
		b.finds("alike in the last one", "v", api.ErrUnique)
		b.layRecord(rec(num(4), "a", num(3), "b", num(2)))
		b.finds("alike in the one ahead of it", "u", api.ErrUnique)
	}
}

// layRecord puts a record and its entries, past the table.
func (b *bed) layRecord(r api.Record) {
	b.t.Helper()
	b.lay("t/p", coded(r.Key), valueOf(r))
	for _, x := range b.indexes {
		b.lay("i/p/"+x.Name, entryOf(x, r), "")
	}
}

// judged is what Check has to answer of a table, by the chapter's words, from all that its trees have. All trees are there.
func judged(b *bed) (string, api.Errno) {
	b.t.Helper()
	var records []api.Record
	for _, p := range pairs(b.t, b.g, "t/p") {
		r, is := asRecord(p)
		if !is {
			return "", api.ErrField
		}
		records = append(records, r)
	}
	for _, x := range b.indexes {
		var want []pair
		someAlike := false
		for i, r := range records {
			entry, e := index.Entry(x, r)
			if e != api.OK {
				return x.Name, api.ErrIndex
			}
			want = append(want, pair{string(entry), ""})
			someAlike = someAlike || slices.ContainsFunc(records[:i], func(s api.Record) bool { return alike(x, r, s) })
		}
		slices.SortFunc(want, func(p, q pair) int { return compareTexts(p.key, q.key) })
		if !slices.Equal(pairs(b.t, b.g, "i/p/"+x.Name), want) {
			return x.Name, api.ErrIndex
		}
		if x.Unique && someAlike {
			return x.Name, api.ErrUnique
		}
	}
	return "", api.OK
}

// asRecord reads a pair as a record's.
func asRecord(p pair) (api.Record, bool) {
	key, e := tuple.Decode([]byte(p.key))
	items, f := tuple.Decode([]byte(p.value))
	if e != api.OK || f != api.OK || len(key) != 1 || len(items)%2 != 0 {
		return api.Record{}, false
	}
	r := api.Record{Key: key[0]}
	for i := 0; i < len(items); i += 2 {
		name := items[i]
		is, known := knownFields[name.Text]
		if name.Kind != api.Text || known && !is || i > 0 && items[i-2].Text >= name.Text {
			return api.Record{}, false
		}
		r.Fields = append(r.Fields, api.Field{Name: name.Text, Item: items[i+1]})
	}
	return r, true
}

// P19.7 for drawn changes of the trees, past the table: Check answers what the chapter's words say of what stands there.
func TestCheckOfDrawnTrees(t *testing.T) {
	t.Parallel()
	for _, engine := range engines() {
		r := chance()
		answers := map[string]int{}
		var odd []pair
		for _, p := range noRecords() {
			odd = append(odd, p)
		}
		slices.SortFunc(odd, func(p, q pair) int { return compareTexts(p.key+p.value, q.key+q.value) })
		few := []api.Item{null(), num(1), num(2), word("a"), list()}
		for range 350 {
			b := newBed(t, "drawn", engine, 512, 1000, by("x", "a"), alone("u", "b", "a"), alone("v", "c"))
			for i := range r.Intn(8) {
				b.layRecord(rec(num(int64(i)), "a", few[r.Intn(5)], "b", few[r.Intn(5)], "c", num(int64(r.Intn(40)))))
			}
			for range r.Intn(3) {
				x := b.indexes[r.Intn(3)]
				s := rec(num(int64(r.Intn(8))), "a", few[r.Intn(5)], "b", few[r.Intn(5)], "c", num(int64(r.Intn(40))))
				switch r.Intn(7) {
				case 0:
					b.lay("i/p/"+x.Name, entryOf(x, s), "")
				case 1:
					b.g.Delete("i/p/"+x.Name, []byte(entryOf(x, s)))
				case 2:
					b.lay("i/p/"+x.Name, entryOf(x, s), "v")
				case 3:
					b.lay("t/p", coded(s.Key), valueOf(s))
				case 4:
					b.g.Delete("t/p", []byte(coded(s.Key)))
				case 5:
					if r.Intn(4) == 0 {
						p := odd[r.Intn(len(odd))]
						b.lay("t/p", p.key, p.value)
					}
				default:
					b.layRecord(s)
				}
			}
			name, want := judged(b)
			answers[fmt.Sprint(name, want)]++
			b.finds("drawn", name, want)
			stop(t)
		}
		for _, answer := range []string{"0", "192", "x193", "u193", "v193", "u190", "v190"} {
			same(t, answer+" is answered now and then", answers[answer] > 0, true)
		}
	}
}

// P19.7: a table of many records, each of whose entries is wanted.
func TestCheckOfMany(t *testing.T) {
	t.Parallel()
	for _, engine := range engines() {
		b := newBed(t, "many", engine, 512, 8000, by("x", "a"), alone("u", "b"))
		for i := range int64(500) {
			b.put(rec(num(i*7%500), "a", num(i%10), "b", word(fmt.Sprint("text ", i)), "c", word(long(int(i%5)*60, 'c'))))
		}
		b.finds("many", "", api.OK)
		for _, x := range b.indexes {
			_, at := b.rising(&x)
			for i := 0; i < len(at); i += 61 {
				b.pluck("i/p/"+x.Name, at[i])
				b.finds("one too few of many", x.Name, api.ErrIndex)
				b.lay("i/p/"+x.Name, at[i], "")
			}
		}
		b.finds("as it was", "", api.OK)
		b.layRecord(rec(num(1000), "b", word("text 77")))
		b.finds("alike among many", "u", api.ErrUnique)
	}
}
