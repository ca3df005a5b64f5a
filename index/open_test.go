package index_test

import (
	"fmt"
	"slices"
	"testing"

	"espalier/api"
	"espalier/grove"
	"espalier/index"
)

func sorted(l ...string) []string {
	slices.Sort(l)
	return l
}

// P19.2: over no grove there is no table, whatever the name.
func TestNoGrove(t *testing.T) {
	for _, name := range []string{"", "p", "P", long(31, 'p')} {
		x, e := index.Open(nil, name)
		same(t, "Open", fmt.Sprint(x != nil, e), "false 1")
		same(t, "Drop", index.Drop(nil, name), api.ErrArg)
		x, e = index.Make(nil, name, nil)
		same(t, "Make", fmt.Sprint(x != nil, e), "false 1")
	}
}

// P19.2: there is a table where t-indexes has its name, and nowhere else.
func TestWhereThereIsATable(t *testing.T) {
	for _, engine := range engines() {
		g := grove.Open(newRoom(engine, 512, 400), 0, 0)
		none := func(what string, names ...string) {
			t.Helper()
			for _, name := range names {
				x, e := index.Open(g, name)
				same(t, what+": Open of "+name, fmt.Sprint(x != nil, e), "false 191")
				same(t, what+": Drop of "+name, index.Drop(g, name), api.ErrTable)
			}
		}
		none("an empty grove", "p", "q", "t-indexes")
		same(t, "Make", g.Make("t/p"), api.OK)
		none("a tree alone", "p", "t/p")
		same(t, "Make", g.Make("t-indexes"), api.OK)
		none("t-indexes without it", "p", "t-indexes")
		same(t, "Drop", g.Drop("t/p"), api.OK)
		makes(t, g, "p", by("x", "a"))
		none("others", "", "q", "P", "pp", "x", "t/p", "i/p/x", "p/x", "t-indexes")
		x, e := index.Open(g, "p")
		same(t, "Open", fmt.Sprint(x != nil, e), "true 0")
		_, e = g.Put("t-indexes", []byte("P/q"), nil)
		same(t, "a key that is no short name", e, api.OK)
		none("a key that is no short name", "P/q")
		same(t, "Drop", index.Drop(g, "p"), api.OK)
		none("dropped", "p")
		sameNames(t, g, "t-indexes")
	}
}

// P19.2: nothing is read of the table at Open but its pair, and nothing written.
func TestOpenChangesNothing(t *testing.T) {
	for _, engine := range engines() {
		b := stocked(t, "Open", engine)
		b.unchanged("Open", func() {
			x, e := index.Open(b.g, "p")
			same(t, "Open", fmt.Sprint(x != nil, e), "true 0")
		})
	}
}

// stocked is a table with records of many lengths, by several indexes.
func stocked(t *testing.T, what string, engine int) *bed {
	t.Helper()
	b := newBed(t, what, engine, 512, 3000, by("city", "city", "age"), alone("mail", "mail"), by("lists", "l"))
	for i := range int64(60) {
		r := rec(num(i*7%60), "age", num(i%4), "city", word(fmt.Sprint("c", i%9)))
		switch i % 3 {
		case 0:
			r.Fields = append(r.Fields, api.Field{Name: "mail", Item: word(fmt.Sprint("m", i))}, api.Field{Name: "text", Item: word(long(int(i)*20, 't'))})
		case 1:
			r.Fields = append(r.Fields, api.Field{Name: "l", Item: list(num(i), list(word("x")), null())}, api.Field{Name: "mail", Item: null()})
		}
		b.put(r)
	}
	b.put(rec(list(num(1), list(word("in"), bin("\x00")))), rec(null()), rec(word("k"), "l", list()))
	b.room.acts = nil
	return b
}

// P19.2: Drop takes a table's trees and its pair away, gives their pages back, and leaves all else.
func TestDrop(t *testing.T) {
	for _, engine := range engines() {
		room := newRoom(engine, 512, 4000)
		g := grove.Open(room, 0, 0)
		other := makes(t, g, "pp", by("city", "city"), by("mail", "mail"))
		puts(t, other, rec(num(1), "city", word("c"), "mail", word("m")), false, api.OK)
		same(t, "Make", g.Make("i/p/other"), api.OK)
		same(t, "Make", g.Make("i/p"), api.OK)
		names, _ := g.Names()
		before := len(room.Taken())
		for range 3 {
			x := makes(t, g, "p", by("city", "city"), by("mail", "mail"))
			for i := range int64(100) {
				puts(t, x, rec(num(i), "city", word(long(30, 'c')), "mail", word(long(int(i%30), 'm')), "text", word(long(int(i)*10, 't'))), false, api.OK)
			}
			same(t, "Drop", index.Drop(g, "p"), api.OK)
			sameNames(t, g, names...)
			same(t, "pages that are taken", len(room.Taken()), before)
			_, is, e := g.Get("t-indexes", []byte("p"))
			same(t, "the pair", fmt.Sprint(is, e), "false 0")
			same(t, "Drop again", index.Drop(g, "p"), api.ErrTable)
		}
		n, e := other.Len()
		same(t, "Len of another table", fmt.Sprint(n, e), "1 0")
		name, e := other.Check()
		same(t, "Check of another table", fmt.Sprintf("%q %d", name, e), `"" 0`)
	}
}

// noTable holds that each call answers ErrTable, also where it would be refused otherwise; and that nothing changes by it.
func noTable(t *testing.T, what string, x *index.Table) {
	t.Helper()
	for _, r := range []api.Record{rec(num(1)), rec(api.Item{Kind: 99}), rec(num(1), "key", num(1)), rec(num(1), "b", null(), "a", null()), rec(word(long(80, 'k'))), rec(num(1), "a", word(long(70000, 'a')))} {
		is, e := x.Put(r)
		same(t, what+": Put", fmt.Sprint(is, e), "false 191")
	}
	for _, key := range []api.Item{num(1), {Kind: -1}, word("\xff"), word(long(80, 'k')), nested(17)} {
		is, e := x.Delete(key)
		same(t, what+": Delete", fmt.Sprint(is, e), "false 191")
		r, is, e := x.Get(key)
		same(t, what+": Get", fmt.Sprint(form(r), is, e), fmt.Sprint(form(api.Record{}), false, api.ErrTable))
	}
	n, e := x.Len()
	same(t, what+": Len", fmt.Sprint(n, e), "0 191")
	same(t, what+": Indexes", len(x.Indexes()), 0)
	for _, name := range []string{"", "x", "city", "none", "X/"} {
		for _, open := range []bool{false, true} {
			for _, reverse := range []bool{false, true} {
				l, e := told(x.Scan(name, []byte("b"), nil, open, reverse))
				same(t, what+": Scan", fmt.Sprint(len(l), e), "0 191")
			}
		}
	}
	name, e := x.Check()
	same(t, what+": Check", fmt.Sprintf("%q %d", name, e), `"" 191`)
}

// P19.3: a table that was dropped is there no more, for each Table of it; nothing is there to be changed either.
func TestATableThatWasDropped(t *testing.T) {
	for _, engine := range engines() {
		b := stocked(t, "dropped", engine)
		twin, _ := index.Open(b.g, "p")
		all := twin.Scan("city", nil, nil, true, false)
		same(t, "Drop", index.Drop(b.g, "p"), api.OK)
		b.unchanged("dropped", func() {
			noTable(t, "dropped", b.x)
			noTable(t, "dropped, its twin", twin)
		})
		l, e := told(all)
		same(t, "a Scan from before", fmt.Sprint(len(l), e), "0 191")
		same(t, "Drop of t-indexes", b.g.Drop("t-indexes"), api.OK)
		noTable(t, "t-indexes gone", b.x)
	}
}

// P19.3: a Table is the grove and the name: two of them are one table, also where it was made anew, with other indexes, by another one.
func TestATableMadeAnew(t *testing.T) {
	for _, engine := range engines() {
		b := newBed(t, "made anew", engine, 512, 400, by("x", "a"))
		twin, e := index.Open(b.g, "p")
		same(t, "Open", e, api.OK)
		all := twin.Scan("x", nil, nil, true, false)
		b.put(rec(num(1), "a", num(5)), rec(num(2), "a", num(4)))
		b.tells("at first")
		l, e := told(all)
		same(t, "Scan of the twin", fmt.Sprint(keysOf(l), e), "[2 1] 0")
		is, e := twin.Delete(num(1))
		same(t, "Delete by the twin", fmt.Sprint(is, e), "true 0")
		delete(b.want, coded(num(1)))
		b.tells("behind the twin's Delete")
		same(t, "Drop", index.Drop(b.g, "p"), api.OK)
		b.indexes = []api.Index{alone("y", "b", "a"), by("x", "b")}
		clear(b.want)
		third := makes(t, b.g, "p", b.indexes...)
		b.tells("made anew, empty")
		puts(t, third, rec(num(7), "a", num(1), "b", num(9)), false, api.OK)
		b.want[coded(num(7))] = rec(num(7), "a", num(1), "b", num(9))
		b.tells("made anew")
		puts(t, twin, rec(num(8), "a", num(1), "b", num(9)), false, api.ErrUnique)
		puts(t, twin, rec(num(8), "a", num(2), "b", num(8)), false, api.OK)
		b.want[coded(num(8))] = rec(num(8), "a", num(2), "b", num(8))
		l, e = told(all)
		same(t, "a Scan from before, of an index that is another one", fmt.Sprint(keysOf(l), e), "[8 7] 0")
		b.tells("put by the twin")
		b.holds("put by the twin")
		same(t, "Drop", index.Drop(b.g, "p"), api.OK)
		makes(t, b.g, "p")
		l, e = told(all)
		same(t, "a Scan of an index that is gone", fmt.Sprint(len(l), e), "0 193")
	}
}

// P19.3: tables beside each other, with names that begin one another, have nothing in common but t-indexes.
func TestTablesBesideEachOther(t *testing.T) {
	for _, engine := range engines() {
		room := newRoom(engine, 512, 4000)
		g := grove.Open(room, 0, 0)
		var beds []*bed
		for i, name := range []string{"p", "pp", "p.", "p-x", "x", "t-indexes", "i", long(30, 'p')} {
			indexes := []api.Index{by("x", "a"), alone("p", "b", "a"), by(fmt.Sprint("only", i), "c")}
			b := &bed{t: t, what: "the table " + name, room: room, g: g, x: makes(t, g, name, indexes...), name: name, indexes: indexes, want: map[string]api.Record{}}
			beds = append(beds, b)
		}
		for i := range int64(20) {
			for j, b := range beds {
				b.put(rec(num(i), "a", num(i*int64(j+1)%5), "b", num(i), "c", word(b.name)))
			}
		}
		for i, b := range beds {
			b.holds("beside others")
			b.tells("beside others")
			if i%2 == 0 {
				b.remove(num(3), num(0), num(int64(i)))
			}
		}
		for i, b := range beds {
			b.holds("behind deletes")
			same(t, "Drop", index.Drop(g, b.name), api.OK)
			noTable(t, b.what, b.x)
			for _, other := range beds[i+1:] {
				other.tells("behind a Drop")
			}
		}
		sameNames(t, g, "t-indexes")
	}
}
