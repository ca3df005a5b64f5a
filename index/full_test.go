package index_test

import (
	"fmt"
	"testing"

	"espalier/api"
	"espalier/grove"
	"espalier/index"
	"espalier/pager"
	"espalier/plate"
	"espalier/store"
)

// change is a call that changes the grove, and by how many calls of the grove at most it may do that.
type change struct {
	what string
	most int
	do   func(b *bed) (string, api.Errno)
}

func changes() []change {
	put := func(r api.Record) func(b *bed) (string, api.Errno) {
		return func(b *bed) (string, api.Errno) {
			is, e := b.x.Put(r)
			return fmt.Sprint(is), e
		}
	}
	made := func(indexes int) func(b *bed) (string, api.Errno) {
		return func(b *bed) (string, api.Errno) {
			x, e := index.Make(b.g, "new", several(indexes))
			return fmt.Sprint(x != nil), e
		}
	}
	return []change{
		{"Make without indexes", 2, made(0)}, {"Make with 3 indexes", 5, made(3)},
		{"Drop", 5, func(b *bed) (string, api.Errno) { return "false", index.Drop(b.g, "p") }},
		{"Put of a new one", 4, put(rec(num(1000), "age", num(9), "city", word("new"), "mail", word("new")))},
		{"Put with other entries", 7, put(rec(num(7), "age", num(9), "city", word("new"), "l", num(1), "mail", word("new")))},
		{"Put with one other entry", 3, put(rec(num(7), "age", num(9), "city", word("new"), "l", list(num(1), list(word("x")), null()), "mail", null()))},
		{"Put of a long one", 7, put(rec(num(7), "text", word(long(3000, 't'))))},
		{"Delete", 4, func(b *bed) (string, api.Errno) {
			is, e := b.x.Delete(num(7))
			return fmt.Sprint(is), e
		}},
	}
}

// A change of the grove asks for 12 pages at least; the trees that it changes, of so few levels, for fewer.
const askOfAGrove = 12

// asks is how many changes of the grove the room was asked for.
func (r *room) asks() int {
	n := 0
	for _, a := range r.acts {
		if a.what == "spare" && a.n >= askOfAGrove {
			n++
		}
	}
	return n
}

// Where room is wanting: ErrFull is handed on, wherever on the way it comes, beside zero values; at the first ask nothing has changed. No call changes the grove more often than it may.
func TestWhereRoomIsWanting(t *testing.T) {
	for _, engine := range engines() {
		b := newBed(t, "room", engine, 512, 3000, by("city", "city", "age"), alone("mail", "mail"), by("lists", "l"))
		for i := range int64(20) {
			b.put(rec(num(i), "age", num(i%4), "city", word(fmt.Sprint("c", i%9)), "l", list(num(i%3), list(word("x")), null()), "mail", null()))
		}
		for _, c := range changes() {
			whole := b.copied()
			_, e := c.do(whole)
			same(t, c.what, e, api.OK)
			same(t, fmt.Sprintf("%s: %d changes of the grove", c.what, whole.room.asks()), whole.room.asks() > 0 && whole.room.asks() <= c.most, true)
			total := 0
			for _, a := range whole.room.acts {
				if a.what == "spare" {
					total++
				}
			}
			for granted := range total {
				at := b.copied()
				at.room.grants = granted
				image := at.room.image()
				root, n := at.g.Root()
				answer, e := c.do(at)
				what := fmt.Sprintf("%s: %d asks granted", c.what, granted)
				same(t, what, fmt.Sprint(answer, e), fmt.Sprint("false", api.ErrFull))
				if granted == 0 {
					after, m := at.g.Root()
					same(t, what+": nothing has changed", at.room.image() == image && after == root && m == n, true)
				}
			}
			stop(t)
		}
	}
}

// Where room is wanting: what only looks, and what changes nothing, asks for no page.
func TestLooksWithoutRoom(t *testing.T) {
	for _, engine := range engines() {
		b := stocked(t, "no room", engine)
		b.room.grants = 0
		b.tells("no room")
		b.gone("no room", num(-1))
		b.gone("no room", word(long(80, 'k')))
		b.refuses("no room", rec(num(1), "mail", word("m3")), api.ErrUnique)
		b.refuses("no room", rec(num(1), "key", num(1)), api.ErrField)
		same(t, "Drop of none", index.Drop(b.g, "q"), api.ErrTable)
		is, e := b.x.Delete(num(1))
		same(t, "Delete", fmt.Sprint(is, e), fmt.Sprint(false, api.ErrFull))
		same(t, "Drop", index.Drop(b.g, "p"), api.ErrFull)
		b.holds("no room")
	}
}

// tableIn is the table p in a grove, with what it should have.
func tableIn(t *testing.T, what string, g *grove.Grove, indexes []api.Index, want map[string]api.Record) *bed {
	t.Helper()
	x, e := index.Open(g, "p")
	if e != api.OK {
		t.Fatalf("%s: Open: %d", what, e)
	}
	return &bed{t: t, what: what, room: newRoom(api.Plain, 512, 3), g: g, x: x, name: "p", indexes: indexes, want: want}
}

// On a store: tables commit by commit, on devices that are too small for all that is put. Where a call is answered ErrFull, the transaction is given up; behind it the table is as the last commit has left it.
func TestTablesOnAStore(t *testing.T) {
	t.Parallel()
	for _, engine := range engines() {
		full, done := 0, 0
		for _, pages := range []int{40, 60, 90, 150, 400} {
			device := plate.New(512, pages)
			s, e := store.Open(device, engine)
			same(t, "store.Open", e, api.OK)
			indexes := []api.Index{by("x", "a", "b"), alone("u", "c")}
			same(t, "Begin", s.Begin(), api.OK)
			g, _ := s.Grove()
			makes(t, g, "p", indexes...)
			_, e = s.Commit()
			same(t, "Commit", e, api.OK)
			want := map[string]api.Record{}
			r := chance()
			for step := range 150 {
				same(t, "Begin", s.Begin(), api.OK)
				g, _ := s.Grove()
				b := tableIn(t, fmt.Sprintf("engine %d, %d pages, step %d", engine, pages, step), g, indexes, want)
				record := rec(num(int64(r.Intn(60))), "a", num(int64(r.Intn(5))), "b", word(long(r.Intn(20), 'b')), "c", num(int64(step)), "d", word(long(r.Intn(300), 'd')))
				was, wantE := b.expected(record)
				is, e := b.x.Put(record)
				if e == api.OK {
					_, e = s.Commit()
				}
				if e == api.ErrFull {
					full++
					same(t, "Rollback", s.Rollback(), api.OK)
				} else {
					done++
					same(t, b.what+": Put", fmt.Sprint(is, e), fmt.Sprint(was, wantE))
					want[coded(record.Key)] = record
				}
				if step%30 == 29 {
					same(t, "Begin", s.Begin(), api.OK)
					g, _ := s.Grove()
					b := tableIn(t, b.what, g, indexes, want)
					b.holds("committed")
					b.tells("committed")
					same(t, "Rollback", s.Rollback(), api.OK)
				}
			}
			same(t, "Close", s.Close(), api.OK)
		}
		same(t, "some are refused", full > 20, true)
		same(t, "some are not", done > 100, true)
	}
}

// In a view: a table tells what its commit has, and takes no change.
func TestTablesInAView(t *testing.T) {
	for _, engine := range engines() {
		p, e := pager.Open(plate.New(512, 2000), engine)
		same(t, "pager.Open", e, api.OK)
		x, e := p.Begin()
		same(t, "Begin", e, api.OK)
		g := grove.Open(x, 0, 0)
		indexes := []api.Index{by("x", "a"), alone("u", "b")}
		table := makes(t, g, "p", indexes...)
		want := map[string]api.Record{}
		for i := range int64(80) {
			r := rec(num(i), "a", num(i%7), "b", num(-i))
			puts(t, table, r, false, api.OK)
			want[coded(r.Key)] = r
		}
		same(t, "SetRoot", x.SetRoot(g.Root()), api.OK)
		_, e = x.Commit()
		same(t, "Commit", e, api.OK)
		v, e := p.View()
		same(t, "View", e, api.OK)
		looking := tableIn(t, "a view", grove.Open(v, v.Meta().Root, v.Meta().Count), indexes, want)
		changedBehind(t, p)
		looking.holds("a view")
		looking.tells("a view")
		puts(t, looking.x, rec(num(500)), false, api.ErrFull)
		puts(t, looking.x, rec(num(500), "b", num(-3)), false, api.ErrUnique)
		puts(t, looking.x, rec(word(long(80, 'k'))), false, api.ErrSize)
		is, e := looking.x.Delete(num(5))
		same(t, "Delete in a view", fmt.Sprint(is, e), fmt.Sprint(false, api.ErrFull))
		is, e = looking.x.Delete(num(-5))
		same(t, "Delete of none in a view", fmt.Sprint(is, e), fmt.Sprint(false, api.OK))
		same(t, "Drop in a view", index.Drop(looking.g, "p"), api.ErrFull)
		looking.tells("a view that has refused")
		v.Close()
	}
}

// changedBehind commits other records of the table p.
func changedBehind(t *testing.T, p *pager.Pager) {
	t.Helper()
	x, e := p.Begin()
	same(t, "Begin", e, api.OK)
	root, n := x.Root()
	g := grove.Open(x, root, n)
	table, e := index.Open(g, "p")
	same(t, "Open", e, api.OK)
	for i := range int64(80) {
		if i%2 == 0 {
			table.Delete(num(i))
		} else {
			puts(t, table, rec(num(i), "a", word("other")), true, api.OK)
		}
	}
	same(t, "SetRoot", x.SetRoot(g.Root()), api.OK)
	_, e = x.Commit()
	same(t, "Commit", e, api.OK)
}
