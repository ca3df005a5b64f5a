package index_test

import (
	"fmt"
	"math"
	"slices"
	"testing"

	"espalier/api"
	"espalier/index"
	"espalier/node"
)

// items is items of every kind, edges among them, by falling bytes.
func items() []api.Item {
	l := []api.Item{
		null(), truth(false), truth(true),
		num(math.MinInt64), num(-257), num(-256), num(-1), num(0), num(1), num(255), num(256), num(math.MaxInt64),
		float(math.Inf(-1)), float(-1.5), float(math.Copysign(0, -1)), float(0), float(1.5), float(math.Inf(1)), float(math.NaN()), {Kind: api.Float, Num: -1},
		bin(""), bin("\x00"), bin("\x00\x01"), bin("\x00\xff"), bin("a"), bin("a\x00b"), bin("\xff\xff"),
		word(""), word("\x00"), word("a"), word("ab"), word("b"), word("é\U0010ffff"),
		list(), list(null()), list(num(1)), list(num(1), list()), list(list(word("x"), truth(true))), nested(16),
	}
	slices.SortFunc(l, func(a, b api.Item) int { return -compareTexts(coded(a), coded(b)) })
	return l
}

func compareTexts(a, b string) int {
	switch {
	case a < b:
		return -1
	case a > b:
		return 1
	}
	return 0
}

// P19.4, P19.5: keys of every kind, put one behind the other, looked up, replaced and deleted.
func TestKeysOfEveryKind(t *testing.T) {
	for _, engine := range engines() {
		b := newBed(t, "keys of every kind", engine, 512, 1000, by("x", "a"), alone("y", "b"))
		for i, key := range items() {
			b.put(rec(key, "a", num(int64(i%5)), "b", num(int64(i))))
		}
		b.holds("put")
		b.tells("put")
		for i, key := range items() {
			b.put(rec(key, "a", num(int64(i%4)), "b", num(int64(i))))
		}
		b.holds("put again")
		b.tells("put again")
		for i, key := range items() {
			b.remove(key)
			b.remove(key)
			r, is, e := b.x.Get(key)
			same(t, "Get of what is gone", fmt.Sprint(form(r), is, e), fmt.Sprint(form(api.Record{}), false, api.OK))
			if i%10 == 0 {
				b.holds("some deleted")
				b.tells("some deleted")
			}
		}
		same(t, "what is left", len(b.want), 0)
		b.holds("all deleted")
		b.tells("all deleted")
	}
}

// P19.4: fields of every kind, alone and two at a time, in indexes of one field and of two.
func TestFieldsOfEveryKind(t *testing.T) {
	for _, engine := range engines() {
		b := newBed(t, "fields of every kind", engine, 1024, 4000, by("x", "a"), by("y", "b", "a"), alone("z", "a", "c"))
		l := items()
		for i, item := range l {
			b.put(rec(num(int64(i)), "a", item), rec(num(int64(1000+i)), "b", item), rec(num(int64(2000-i)), "a", l[(i*7)%len(l)], "b", item))
		}
		b.holds("put")
		b.tells("put")
		for i, item := range l {
			b.put(rec(num(int64(1000+i)), "a", l[(i*5)%len(l)], "b", l[(i*3)%len(l)], "d", item))
		}
		b.holds("put again")
		b.tells("put again")
	}
}

// P19.4: 0, 1, 32 and 33 fields, whatever their items.
func TestHowManyFields(t *testing.T) {
	for _, engine := range engines() {
		b := newBed(t, "how many fields", engine, 512, 1000, by("first", "f00"), by("last", "f31"), by("both", "f31", "f00"), by("none", "f99"))
		for _, item := range []api.Item{null(), num(7), list(null(), null())} {
			for _, n := range []int{0, 1, 2, 31, 32} {
				b.put(numbered(num(int64(n)), n, item))
				b.holds(fmt.Sprint(n, " fields"))
			}
			b.refuses("33 fields", numbered(num(1), 33, item), api.ErrField)
			b.refuses("33 fields", numbered(num(99), 33, item), api.ErrField)
			b.refuses("500 fields", numbered(num(99), 500, item), api.ErrField)
			b.tells("put")
		}
		// As many fields as may be, with as long names.
		r := api.Record{Key: num(5)}
		for i := range 32 {
			r.Fields = append(r.Fields, api.Field{Name: fmt.Sprintf("f%02d%s", i, long(61, 'n')), Item: num(int64(i))})
		}
		b.put(r)
		b.holds("long names")
		b.tells("long names")
	}
}

// P19.4: which names a record's fields may have, alone, first and last.
func TestNamesOfFields(t *testing.T) {
	for _, engine := range engines() {
		b := newBed(t, "names of fields", engine, 512, 1000, by("x", "a"))
		b.put(rec(num(1), "a", num(1)))
		for name, is := range fieldNames() {
			r := rec(num(1), name, num(2))
			if is {
				b.put(r)
				got, there, e := b.x.Get(num(1))
				same(t, "Get", fmt.Sprint(form(got), there, e), fmt.Sprint(form(r), true, api.OK))
			} else {
				b.refuses("a wrong name", r, api.ErrField)
			}
			entry, e := index.Entry(b.indexes[0], r)
			same(t, fmt.Sprintf("Entry with the name %.40q", name), e == api.OK && len(entry) > 0, is)
			if !is && e != api.ErrField {
				t.Errorf("Entry with the name %.40q: %d", name, e)
			}
			if is && name > "a" {
				b.put(rec(num(1), "a", num(3), name, num(2)))
			}
			if !is && name > "a" {
				b.refuses("a wrong name behind a good one", rec(num(1), "a", num(3), name, num(2)), api.ErrField)
			}
			if !is && name < "zz" {
				b.refuses("a wrong name ahead of a good one", rec(num(1), name, num(2), "zz", num(3)), api.ErrField)
			}
		}
		b.holds("behind all")
	}
}

// P19.4: names that do not rise, or stand twice.
func TestNamesThatDoNotRise(t *testing.T) {
	for _, engine := range engines() {
		b := newBed(t, "names that do not rise", engine, 512, 1000, by("x", "a"))
		b.put(rec(num(1), "a", num(1)))
		for _, names := range [][]string{{"b", "a"}, {"a", "a"}, {"a", "b", "b"}, {"a", "b", "a"}, {"a", "c", "b"}, {"aa", "a"}, {"a0", "a-"}, {"a-", "a."}, {"b", "a", "c"}} {
			r := api.Record{Key: num(1)}
			for i, name := range names {
				r.Fields = append(r.Fields, api.Field{Name: name, Item: num(int64(i))})
			}
			if slices.IsSorted(names) && len(slices.Compact(slices.Clone(names))) == len(names) {
				b.put(r)
				continue
			}
			b.refuses(fmt.Sprint("the names ", names), r, api.ErrField)
			_, e := index.Entry(b.indexes[0], r)
			same(t, fmt.Sprint("Entry with the names ", names), e, api.ErrField)
		}
		for _, i := range []int{1, 15, 31} {
			r := numbered(num(1), 32, num(1))
			r.Fields[i].Name = r.Fields[i-1].Name
			b.refuses(fmt.Sprint("the name ", i, " twice"), r, api.ErrField)
			r.Fields[i].Name = "a"
			b.refuses(fmt.Sprint("the name ", i, " too early"), r, api.ErrField)
		}
		b.holds("behind all")
		b.tells("behind all")
	}
}

// wrongItems is items that may not be, and the errors that say so.
func wrongItems() map[api.Errno][]api.Item {
	var many []api.Item
	for range 65 {
		many = append(many, null())
	}
	return map[api.Errno][]api.Item{
		api.ErrItem:  {{Kind: 8}, {Kind: -1}, {Kind: math.MaxInt}, {Kind: api.Null, Num: 1}, {Kind: api.Int, Text: "a"}, {Kind: api.Text, Text: "\xff"}, {Kind: api.True, List: []api.Item{null()}}, list(word("\xff"))},
		api.ErrItems: {list(many...), nested(17), list(num(1), list(many...))},
		api.ErrLong:  {word(long(65534, 'a')), bin(long(65534, 'a')), bin(long(200000, 'a')), word(long(32768, 0)), list(bin(long(65533, 'a')))},
	}
}

// P19.4, P19.8: keys and items that may not be; tuple's error is handed on.
func TestItemsThatMayNotBe(t *testing.T) {
	for _, engine := range engines() {
		b := newBed(t, "items that may not be", engine, 512, 1000, by("x", "a"), by("y", "c"))
		b.put(rec(num(1), "a", num(1)))
		x := b.indexes[0]
		for want, l := range wrongItems() {
			for i, item := range l {
				what := fmt.Sprintf("the wrong item %d of %d", i, want)
				for where, r := range map[string]api.Record{
					"as a key": rec(item), "as a key, with fields": rec(item, "a", num(1)),
					"as a field": rec(num(1), "a", item), "as a field of another key": rec(num(2), "a", item), "as a field that no index has": rec(num(1), "a", num(3), "b", item), "behind others": rec(num(1), "a", num(1), "b", num(2), "d", item),
				} {
					b.refuses(what+" "+where, r, want)
					entry, e := index.Entry(x, r)
					same(t, what+" "+where+": Entry", fmt.Sprint(len(entry), e), fmt.Sprint(0, want))
				}
			}
		}
		b.holds("behind all")
		b.tells("behind all")
	}
}

// P19.4: a value of 65536 bytes is taken, one byte more is not, also where no single item is too long.
func TestTheLongestValue(t *testing.T) {
	for _, engine := range engines() {
		b := newBed(t, "the longest value", engine, 512, 2000, by("x", "a"))
		// The field b: 4 bytes of its name, 1 of the item's kind, 2 at its end.
		one := func(n int) api.Record { return rec(num(1), "b", bin(long(n, 'v'))) }
		b.put(one(65536 - 7))
		b.holds("as long as may be")
		b.refuses("a byte too long", one(65536-6), api.ErrLong)
		two := func(n int) api.Record {
			return rec(num(1), "b", bin(long(40000, 'v')), "c", bin(long(n, 'w')))
		}
		b.put(two(65536 - 40000 - 14))
		b.refuses("a byte too long in all", two(65536-40000-13), api.ErrLong)
		b.holds("behind all")
		b.tells("behind all")
	}
}

// sizes is pages of several sizes; a key has an eighth of them at most.
func sizes() []int { return []int{512, 1024, 4096, 65536} }

// P19.4: keys and entries just as long as a key of the grove may be, and a byte longer.
func TestKeysAndEntriesAtTheLimit(t *testing.T) {
	t.Parallel()
	for _, engine := range engines() {
		for _, size := range sizes() {
			most := node.MostKey(size)
			b := newBed(t, "at the limit", engine, size, 300)
			// A Bytes has a byte ahead of its own, and two behind them.
			key := func(n int) api.Item { return bin(long(n-3, 'k')) }
			b.put(rec(key(most)), rec(key(most-1), "a", num(1)))
			b.refuses("a key that is too long", rec(key(most+1)), api.ErrSize)
			b.refuses("a key that is too long, with fields", rec(key(most+1), "a", num(1)), api.ErrSize)
			b.refuses("a key that is far too long", rec(bin(long(65000, 'k'))), api.ErrSize)
			b.refuses("a key of zeros that is too long", rec(bin(long((most-3)/2+1, 0))), api.ErrSize)
			b.put(rec(bin(long((most-3)/2, 0)), "a", num(1)))
			b.put(rec(key(most), "b", num(2)))
			b.holds("keys")
			b.tells("keys")
			b = newBed(t, "entries at the limit", engine, size, 300, by("x", "a"), alone("y", "b", "c"))
			// Of x an item and the key 13 81 01; of y two items, one of them Null, and the key.
			b.put(rec(num(1), "a", key(most-3), "b", key(most-4)))
			b.refuses("an entry of x that is too long", rec(num(1), "a", key(most-2)), api.ErrSize)
			b.refuses("an entry of x that is too long, of another key", rec(num(2), "a", key(most-2)), api.ErrSize)
			b.refuses("an entry of y that is too long", rec(num(1), "b", key(most-3)), api.ErrSize)
			b.refuses("an entry of y that is too long, of another key", rec(num(2), "b", key(most/2), "c", key(most-most/2-2)), api.ErrSize)
			b.put(rec(num(2), "b", key(most/2), "c", key(most-most/2-3)))
			b.put(rec(num(3), "a", key(most-3), "z", key(most*2)))
			b.refuses("an entry that is too long by its key", rec(num(256), "a", key(most-3)), api.ErrSize)
			b.put(rec(num(256), "a", key(most-4)))
			// A key that fits, but with which no entry does.
			b.put(rec(key(most - 2)))
			b.refuses("an entry of y that is too long by its key", rec(key(most-1)), api.ErrSize)
			b.holds("entries")
			b.tells("entries")
		}
	}
}

// P19.4, R5: of several errors the one that is named first.
func TestWhichErrorOfPutComesFirst(t *testing.T) {
	for _, engine := range engines() {
		b := newBed(t, "which error", engine, 512, 1000, by("x", "a"), alone("y", "b"), by("z", "c"))
		b.put(rec(num(1), "a", num(1), "b", num(1)))
		wrong, longKey, mostKey := api.Item{Kind: 9}, word(long(100, 'k')), word(long(61, 'k'))
		many := numbered(num(1), 33, wrong)
		for _, c := range []struct {
			what string
			r    api.Record
			want api.Errno
		}{
			{"a wrong key and wrong names", rec(wrong, "key", wrong), api.ErrItem},
			{"a wrong key and too many fields", api.Record{Key: nested(17), Fields: many.Fields}, api.ErrItems},
			{"wrong names and a wrong item", rec(num(1), "A", wrong), api.ErrField},
			{"wrong names behind a wrong item", rec(num(1), "b", wrong, "a", num(1)), api.ErrField},
			{"too many fields and wrong items", many, api.ErrField},
			{"a key that is too long and wrong names", rec(longKey, "key", num(1)), api.ErrField},
			{"a key that is too long and a wrong item", rec(longKey, "a", nested(17)), api.ErrItems},
			{"a key that is too long and a value that is", rec(longKey, "a", word(long(65534, 'a'))), api.ErrLong},
			{"a key that is too long and entries that are", rec(longKey, "a", word(long(65500, 'a'))), api.ErrSize},
			{"an entry that is too long for x, and none at all for z", rec(mostKey, "a", word(long(30, 'a')), "c", word(long(65480, 'c'))), api.ErrSize},
			{"no entry at all for x, one that is too long for z", rec(mostKey, "a", word(long(65480, 'a')), "c", word(long(30, 'c'))), api.ErrLong},
			{"no entry at all for x", rec(mostKey, "a", word(long(65480, 'a'))), api.ErrLong},
			{"no entry at all for x, and alike in y", rec(mostKey, "a", word(long(65480, 'a')), "b", num(1)), api.ErrLong},
			{"alike in y, and an entry that is too long for x", rec(num(2), "a", word(long(60, 'a')), "b", num(1)), api.ErrSize},
			{"alike in y, and an entry that is too long for z", rec(num(2), "b", num(1), "c", word(long(60, 'c'))), api.ErrSize},
			{"alike in y", rec(num(2), "b", num(1), "c", word(long(50, 'c'))), api.ErrUnique},
		} {
			b.refuses(c.what, c.r, c.want)
		}
		b.room.grants = 0
		b.refuses("alike in y, where room is wanting", rec(num(2), "b", num(1)), api.ErrUnique)
		b.refuses("an entry that is too long, where room is wanting", rec(num(2), "a", word(long(60, 'a'))), api.ErrSize)
		b.refuses("a key that is too long, where room is wanting", rec(longKey), api.ErrSize)
		b.room.grants = plenty
		b.holds("behind all")
		b.tells("behind all")
	}
}

// P19.4: a record in the place of another one: with other items, with the same ones, with fields that come and go, one index at a time.
func TestRecordsInThePlaceOfOthers(t *testing.T) {
	for _, engine := range engines() {
		b := newBed(t, "in the place", engine, 512, 1000, by("x", "a"), alone("y", "b"), by("z", "c", "a"))
		b.put(rec(num(0), "a", num(1), "b", num(100), "c", num(1)), rec(num(2), "a", num(1), "b", num(102), "c", num(1)))
		for i, r := range []api.Record{
			rec(num(1), "a", num(1), "b", num(1), "c", num(1)), // beside two that are the same there
			rec(num(1), "a", num(1), "b", num(1), "c", num(1)), // the same again
			rec(num(1), "a", num(2), "b", num(1), "c", num(1)), // another a
			rec(num(1), "a", num(2), "b", num(2), "c", num(1)), // another b
			rec(num(1), "a", num(2), "b", num(2), "c", num(2)), // another c
			rec(num(1), "a", num(2), "b", num(2), "c", num(2), "d", num(1)),
			rec(num(1), "a", num(2), "c", num(2), "d", num(1)), // b is gone
			rec(num(1), "a", num(2), "b", null(), "c", num(2)), // and is Null: the same there
			rec(num(1)),
			rec(num(1), "a", null(), "b", null(), "c", null()),
			rec(num(1), "d", word(long(3000, 'd'))),
			rec(num(1), "d", word(long(300, 'd'))),
			rec(num(1), "a", float(2), "b", word("2"), "c", list()),
			rec(num(1), "a", num(1), "b", num(1), "c", num(1)),
		} {
			b.put(r)
			b.holds(fmt.Sprint("step ", i))
			b.tells(fmt.Sprint("step ", i))
		}
		b.remove(num(0), num(2), num(1))
		b.holds("all gone")
		b.tells("all gone")
	}
}

// P19.4: the same record again leaves the trees as they are.
func TestTheSameRecordAgain(t *testing.T) {
	for _, engine := range engines() {
		b := stocked(t, "the same again", engine)
		l, _ := b.rising(nil)
		for _, r := range l {
			b.put(r)
		}
		b.holds("again")
		b.tells("again")
	}
}
