package index_test

import (
	"fmt"
	"math"
	"testing"

	"espalier/api"
)

// P19.4: when two records are alike: the same bytes in each field of the index, and none of these Null.
func TestWhoIsAlike(t *testing.T) {
	for _, engine := range engines() {
		for _, c := range []struct {
			what   string
			fields []string
			r, s   api.Record
			want   bool
		}{
			{"one field, the same", []string{"a"}, rec(num(1), "a", num(5)), rec(num(2), "a", num(5)), true},
			{"one field, another", []string{"a"}, rec(num(1), "a", num(5)), rec(num(2), "a", num(6)), false},
			{"one field, Null in both", []string{"a"}, rec(num(1), "a", null()), rec(num(2), "a", null()), false},
			{"one field, absent in both", []string{"a"}, rec(num(1)), rec(num(2)), false},
			{"one field, Null and absent", []string{"a"}, rec(num(1), "a", null()), rec(num(2)), false},
			{"other fields differ", []string{"a"}, rec(num(1), "a", num(5), "b", num(1)), rec(num(2), "a", num(5), "b", num(2)), true},
			{"other fields are the same", []string{"a"}, rec(num(1), "a", num(5), "b", num(1)), rec(num(2), "a", num(6), "b", num(1)), false},
			{"two fields, the same", []string{"b", "a"}, rec(num(1), "a", num(5), "b", num(1)), rec(num(2), "a", num(5), "b", num(1)), true},
			{"two fields, the other way round", []string{"b", "a"}, rec(num(1), "a", num(5), "b", num(1)), rec(num(2), "a", num(1), "b", num(5)), false},
			{"two fields, the first differs", []string{"a", "b"}, rec(num(1), "a", num(5), "b", num(1)), rec(num(2), "a", num(6), "b", num(1)), false},
			{"two fields, the second differs", []string{"a", "b"}, rec(num(1), "a", num(5), "b", num(1)), rec(num(2), "a", num(5), "b", num(2)), false},
			{"two fields, the first Null", []string{"a", "b"}, rec(num(1), "a", null(), "b", num(1)), rec(num(2), "a", null(), "b", num(1)), false},
			{"two fields, the second absent", []string{"a", "b"}, rec(num(1), "a", num(5)), rec(num(2), "a", num(5)), false},
			{"two fields, the second absent in one", []string{"a", "b"}, rec(num(1), "a", num(5), "b", num(1)), rec(num(2), "a", num(5)), false},
			{"an Int and a Float", []string{"a"}, rec(num(1), "a", num(1)), rec(num(2), "a", float(1)), false},
			{"zeros with two signs", []string{"a"}, rec(num(1), "a", float(0)), rec(num(2), "a", float(math.Copysign(0, -1))), false},
			{"the same NaN", []string{"a"}, rec(num(1), "a", float(math.NaN())), rec(num(2), "a", float(math.NaN())), true},
			{"Bytes and Text", []string{"a"}, rec(num(1), "a", bin("x")), rec(num(2), "a", word("x")), false},
			{"a text that begins the other", []string{"a"}, rec(num(1), "a", word("x")), rec(num(2), "a", word("x\x00")), false},
			{"texts that run into each other", []string{"a", "b"}, rec(num(1), "a", word("x"), "b", word("yz")), rec(num(2), "a", word("xy"), "b", word("z")), false},
			{"empty texts", []string{"a"}, rec(num(1), "a", word("")), rec(num(2), "a", word("")), true},
			{"False and False", []string{"a"}, rec(num(1), "a", truth(false)), rec(num(2), "a", truth(false)), true},
			{"Lists", []string{"a"}, rec(num(1), "a", list(num(1), null())), rec(num(2), "a", list(num(1), null())), true},
			{"Lists of a Null", []string{"a"}, rec(num(1), "a", list(null())), rec(num(2), "a", list(null())), true},
			{"empty Lists", []string{"a"}, rec(num(1), "a", list()), rec(num(2), "a", list()), true},
			{"Lists of which one begins the other", []string{"a"}, rec(num(1), "a", list(num(1))), rec(num(2), "a", list(num(1), num(1))), false},
			{"the item of one is the key of the other", []string{"a"}, rec(num(1), "a", num(2)), rec(num(2), "a", num(1)), false},
			{"keys that are Null", []string{"a"}, rec(null(), "a", num(2)), rec(list(null()), "a", num(2)), true},
			{"the same record", []string{"a"}, rec(num(1), "a", num(5)), rec(num(1), "a", num(5)), false},
			{"the same key, another item", []string{"a"}, rec(num(1), "a", num(5)), rec(num(1), "a", num(6)), false},
		} {
			for _, at := range []int{0, 1, 2} {
				b := newBed(t, c.what, engine, 512, 400, uniqueAt(at, c.fields)...)
				b.put(c.r)
				same(t, c.what+": by the words", alike(b.indexes[at], c.r, c.s) && coded(c.r.Key) != coded(c.s.Key), c.want)
				if c.want {
					b.refuses(c.what, c.s, api.ErrUnique)
					b.put(rec(c.s.Key, "z", num(1)))
					b.refuses(c.what+", in the place of another", c.s, api.ErrUnique)
				} else {
					b.put(c.s)
				}
				b.holds("behind it")
				b.tells("behind it")
			}
		}
	}
}

// uniqueAt is three indexes, of which one, over these fields, is Unique.
func uniqueAt(at int, fields []string) []api.Index {
	l := []api.Index{by("p", "a"), by("q", "b", "a"), by("r", "z")}
	l[at] = alone("u", fields...)
	return l
}

// P19.4: where an index is not Unique, nobody is refused.
func TestAlikeWhereThatMayBe(t *testing.T) {
	for _, engine := range engines() {
		b := newBed(t, "alike", engine, 512, 4000, by("x", "a"), by("y", "a", "b"))
		for i := range int64(100) {
			b.put(rec(num(i*37%100), "a", num(1), "b", num(i%3)))
		}
		b.holds("alike")
		b.tells("alike")
	}
}

// P19.4: what is given up may be taken by another one: by a Delete, by another item, by a Null.
func TestWhatIsGivenUp(t *testing.T) {
	for _, engine := range engines() {
		b := newBed(t, "given up", engine, 512, 400, alone("x", "a"), alone("y", "b", "c"))
		full := func(key int64, a, b, c int64) api.Record {
			return rec(num(key), "a", num(a), "b", num(b), "c", num(c))
		}
		b.put(full(1, 1, 1, 1), full(2, 2, 1, 2))
		for i, give := range []func(){
			func() { b.remove(num(1)) },
			func() { b.put(full(1, 3, 2, 1)) },
			func() { b.put(rec(num(1), "a", null(), "b", num(1), "c", null())) },
			func() { b.put(rec(num(1))) },
		} {
			what := fmt.Sprint("given up, ", i)
			b.refuses(what, full(3, 1, 9, 9), api.ErrUnique)
			b.refuses(what, full(3, 9, 1, 1), api.ErrUnique)
			b.refuses(what, full(2, 1, 1, 2), api.ErrUnique)
			give()
			b.put(full(2, 1, 1, 1), full(2, 2, 1, 2), full(3, 1, 1, 1))
			b.tells(what)
			b.refuses(what, full(1, 1, 9, 9), api.ErrUnique)
			b.refuses(what, full(1, 9, 1, 1), api.ErrUnique)
			b.remove(num(3))
			b.put(full(1, 1, 1, 1))
			b.holds(what)
		}
	}
}

// P19.4: of several Unique indexes each is asked, wherever the other record stands among many.
func TestAlikeAmongMany(t *testing.T) {
	for _, engine := range engines() {
		b := newBed(t, "among many", engine, 512, 4000, alone("x", "a"), by("n", "a"), alone("y", "b"), alone("z", "c", "d"))
		one := func(key, a, b, c, d int64) api.Record {
			return rec(num(key), "a", num(a), "b", num(b), "c", num(c), "d", num(d))
		}
		for i := range int64(120) {
			b.put(one(i, i*7, -i, i%10, i))
		}
		for i := range int64(120) {
			b.refuses("x", one(500, i*7, 5, 5, 500), api.ErrUnique)
			b.refuses("y", one(500, -1, -i, 5, 500), api.ErrUnique)
			b.refuses("z", one(500, -1, 5, i%10, i), api.ErrUnique)
			if i > 0 {
				b.refuses("x, in the place of another", one(0, i*7, 0, 0, 0), api.ErrUnique)
			}
			b.put(one(i, i*7, -i, i%10, i))
		}
		b.holds("among many")
		b.put(one(500, -1, 5, 5, 500))
		b.tells("among many")
	}
}
