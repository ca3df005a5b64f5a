package index_test

import (
	"fmt"
	"slices"
	"testing"

	"espalier/api"
	"espalier/grove"
	"espalier/index"
)

// look is a call that only looks, or is refused; what it answers is told as a text.
type look struct {
	what string
	do   func(b *bed) (string, api.Errno)
}

func looks() []look {
	return []look{
		{"Open", func(b *bed) (string, api.Errno) {
			x, e := index.Open(b.g, "p")
			return fmt.Sprint(x != nil), e
		}},
		{"Make of what is there", func(b *bed) (string, api.Errno) {
			x, e := index.Make(b.g, "p", nil)
			if e == api.ErrThere {
				e = api.OK
			}
			return fmt.Sprint(x != nil), e
		}},
		{"Len", func(b *bed) (string, api.Errno) {
			n, e := b.x.Len()
			return fmt.Sprint(n), e
		}},
		{"Get", func(b *bed) (string, api.Errno) {
			r, is, e := b.x.Get(num(7))
			return fmt.Sprint(is || len(r.Fields) > 0), e
		}},
		{"Get of none", func(b *bed) (string, api.Errno) {
			r, is, e := b.x.Get(num(-7))
			return fmt.Sprint(is || len(r.Fields) > 0), e
		}},
		{"Delete of none", func(b *bed) (string, api.Errno) {
			is, e := b.x.Delete(num(-7))
			return fmt.Sprint(is), e
		}},
		{"Put of one that is alike", func(b *bed) (string, api.Errno) {
			is, e := b.x.Put(rec(num(-7), "mail", word("m30")))
			if e == api.ErrUnique {
				e = api.OK
			}
			return fmt.Sprint(is), e
		}},
		{"Put of one that is too long", func(b *bed) (string, api.Errno) {
			is, e := b.x.Put(rec(num(-7), "l", word(long(70, 'l'))))
			if e == api.ErrSize {
				e = api.OK
			}
			return fmt.Sprint(is), e
		}},
		{"Check", func(b *bed) (string, api.Errno) { return b.x.Check() }},
	}
}

// isZero tells whether a call may answer that beside an error.
func isZero(s string) bool { return s == "" || s == "0" || s == "false" }

// calls is all calls of this package that may be answered an error of the room.
func calls() []look {
	all := looks()
	for _, c := range changes() {
		all = append(all, look{c.what, c.do})
	}
	return all
}

// An error of the room at each of its calls is handed on, beside zero values; nothing is asked behind it.
func TestAnErrorOfTheRoom(t *testing.T) {
	t.Parallel()
	for _, engine := range engines() {
		b := stocked(t, "an error of the room", engine)
		kinds := map[string]int{}
		for _, c := range calls() {
			whole := b.copied()
			_, e := c.do(whole)
			same(t, c.what, e, api.OK)
			for k, a := range whole.room.acts {
				if a.what == "spare" || k > 400 && k%17 > 0 {
					continue
				}
				kinds[a.what]++
				at := b.copied()
				at.room.fail = k
				answer, e := c.do(at)
				what := fmt.Sprintf("%s: act %d, %s %d, refused", c.what, k, a.what, a.n)
				same(t, what, e, ofTheRoom)
				same(t, what+": beside the error is "+answer, isZero(answer), true)
				same(t, what+": what was asked", slices.Equal(at.room.acts, whole.room.acts[:k+1]), true)
			}
			stop(t)
		}
		for _, what := range []string{"read", "alloc", "write", "free"} {
			same(t, what+": is refused now and then", kinds[what] > 0, true)
		}
	}
}

// P19.6: an error of the grove on the way: the records ahead of it, then a zero record with it, and no more.
func TestAnErrorOfTheRoomInScan(t *testing.T) {
	t.Parallel()
	for _, engine := range engines() {
		b := stocked(t, "an error of the room in Scan", engine)
		for _, name := range []string{"", "city"} {
			var x *api.Index
			if name != "" {
				x = &b.indexes[0]
			}
			want := b.between(x, "", "", true)
			ahead := -1
			for fail := 0; ; fail++ {
				b.room.acts, b.room.fail = nil, fail
				l, e := told(b.x.Scan(name, nil, nil, true, false))
				sameList(t, fmt.Sprint("ahead of read ", fail), forms(l), want[:min(len(l), len(want))])
				same(t, "no fewer the later it is refused", len(l) >= ahead, true)
				ahead = len(l)
				if fail >= len(b.room.acts) {
					same(t, "no error", fmt.Sprint(len(l), e), fmt.Sprint(len(want), api.OK))
					break
				}
				same(t, "the error", e, ofTheRoom)
				same(t, "behind the error nothing is read", len(b.room.acts), fail+1)
				stop(t)
			}
			b.room.fail = -1
		}
	}
}

// P19.3: where the room's error hides whether there is a table, Indexes tells none.
func TestAnErrorOfTheRoomInIndexes(t *testing.T) {
	for _, engine := range engines() {
		b := stocked(t, "an error of the room in Indexes", engine)
		b.x.Indexes()
		reads := len(b.room.acts)
		for fail := range reads {
			b.room.acts, b.room.fail = nil, fail
			same(t, "Indexes", len(b.x.Indexes()), 0)
		}
		b.room.fail = -1
		same(t, "Indexes", formsOfIndexes(b.x.Indexes()), formsOfIndexes(b.indexes))
	}
}

// Whatever becomes of a table, no call may ask its room for more than this.
const mostActs = 200000

// ends holds that each call ends, without a panic, with zero values beside errors, whatever the table is.
func (b *bed) ends(what string) {
	b.t.Helper()
	for _, c := range calls() {
		at := b.detached()
		answer, e := c.do(at)
		same(b.t, what+": "+c.what+": it ends soon", len(at.room.acts) < mostActs, true)
		same(b.t, what+": "+c.what+": beside the error is "+answer, e == api.OK || c.what == "Check" || isZero(answer), true)
	}
	at := b.detached()
	at.x.Indexes()
	for _, name := range []string{"", "city", "mail", "lists", "none"} {
		for i := range 8 {
			all := at.x.Scan(name, []byte("\x11"), []byte("\xfe"), i&1 > 0, i&2 > 0)
			if all == nil {
				b.t.Fatalf("%s: Scan answers nil", what)
			}
			if i&4 > 0 {
				for range all {
					break
				}
				continue
			}
			_, e := told(all)
			same(b.t, what+": Scan tells nothing beside an error, and nothing behind it", e >= 0, true)
		}
	}
	same(b.t, what+": it ends soon", len(at.room.acts) < mostActs, true)
	stop(b.t)
}

// detached is a copy whose table is one, whatever its pages are: it was opened when they were good.
func (b *bed) detached() *bed {
	b.t.Helper()
	root, n := b.g.Root()
	good := grove.Open(newRoom(b.room.Engine(), b.room.Size(), 400), 0, 0)
	makes(b.t, good, "p")
	x, e := index.Open(good, "p")
	if e != api.OK {
		b.t.Fatalf("Open: %d", e)
	}
	c := &bed{t: b.t, what: b.what, room: b.room.copied(), name: "p", indexes: b.indexes, want: b.want}
	c.g = grove.Open(c.room, root, n)
	*good = *c.g
	c.g, c.x = good, x
	c.room.acts = nil
	return c
}

// R1: whatever becomes of the room's pages, each call ends, without a panic.
func TestPagesThatAreSpoilt(t *testing.T) {
	t.Parallel()
	for _, engine := range engines() {
		b := stocked(t, "spoilt", engine)
		pages := b.room.Taken()
		root, _ := b.g.Root()
		for i, page := range pages {
			if i%5 > 0 && page != root {
				continue
			}
			for j, with := range [][]byte{nil, make([]byte, 512), b.room.page(root), b.room.page(pages[(i+1)%len(pages)])} {
				at := b.copied()
				at.room.Lay(page, with)
				at.ends(fmt.Sprintf("page %d spoilt, %d", page, j))
			}
		}
	}
}

// R1: tables that are not good, in a good grove: each call ends, without a panic.
func TestTablesThatAreNotGood(t *testing.T) {
	t.Parallel()
	for _, engine := range engines() {
		b := stocked(t, "not good", engine)
		key := coded(num(7))
		r := b.want[key]
		lays := map[string]func(c *bed){
			"a pair that is none":           func(c *bed) { c.lay("t-indexes", "p", "\xff") },
			"a pair of no index":            func(c *bed) { c.lay("t-indexes", "p", "") },
			"a pair of other indexes":       func(c *bed) { c.lay("t-indexes", "p", definition([]api.Index{by("city", "x"), by("other", "y")})) },
			"an index that is Unique now":   func(c *bed) { c.lay("t-indexes", "p", definition([]api.Index{alone("city", "city")})) },
			"no pair":                       func(c *bed) { c.pluck("t-indexes", "p") },
			"no t-indexes":                  func(c *bed) { c.g.Drop("t-indexes") },
			"no records' tree":              func(c *bed) { c.g.Drop("t/p") },
			"no tree of the first index":    func(c *bed) { c.g.Drop("i/p/city") },
			"no tree of the last index":     func(c *bed) { c.g.Drop("i/p/lists") },
			"no entry of a record":          func(c *bed) { c.pluck("i/p/city", entryOf(c.indexes[0], r)) },
			"an entry of no record":         func(c *bed) { c.lay("i/p/city", entryOf(c.indexes[0], rec(num(-7))), "") },
			"an entry with a value":         func(c *bed) { c.lay("i/p/mail", "\x16m30\x00\x01\x13\x81\x01", "v") },
			"a record gone":                 func(c *bed) { c.pluck("t/p", key) },
			"a record that is another one":  func(c *bed) { c.lay("t/p", key, coded(word("city"), word(long(5000, 'c')))) },
			"a record of which is no entry": func(c *bed) { c.lay("t/p", key, coded(word("city"), word(long(65500, 'c')))) },
		}
		for what, p := range noRecords() {
			lays[what] = func(c *bed) { c.lay("t/p", p.key, p.value) }
			lays[what+", in the place of a record"] = func(c *bed) { c.lay("t/p", key, p.value) }
			lays[what+", as an entry"] = func(c *bed) { c.lay("i/p/city", p.key, p.value) }
		}
		for what, lay := range lays {
			c := b.copied()
			lay(c)
			c.ends(what)
		}
	}
}

// R1: roots and counts that are no grove's.
func TestGrovesThatAreNone(t *testing.T) {
	for _, engine := range engines() {
		b := stocked(t, "no grove", engine)
		root, n := b.g.Root()
		for _, page := range append([]int{-1, 0, 1, 2999, 1 << 40}, b.room.Taken()[:20]...) {
			for _, count := range []int{-1, 0, n, 256, 1 << 40} {
				if page == root && count == n {
					continue
				}
				c := b.copied()
				c.g = grove.Open(c.room, page, count)
				c.ends(fmt.Sprintf("root %d, count %d", page, count))
			}
		}
	}
}
