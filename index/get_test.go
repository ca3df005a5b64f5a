package index_test

import (
	"fmt"
	"testing"

	"espalier/api"
	"espalier/node"
)

// gone holds that there is no record of a key: Get and Delete say so, and change nothing.
func (b *bed) gone(what string, key api.Item) {
	b.t.Helper()
	b.unchanged(what, func() {
		r, is, e := b.x.Get(key)
		same(b.t, b.what+": "+what+": Get", fmt.Sprint(form(r), is, e), fmt.Sprint(form(api.Record{}), false, api.OK))
		is, e = b.x.Delete(key)
		same(b.t, b.what+": "+what+": Delete", fmt.Sprint(is, e), fmt.Sprint(false, api.OK))
	})
}

// P19.5: keys that may not be: tuple's error, and nothing has changed.
func TestWrongKeys(t *testing.T) {
	for _, engine := range engines() {
		b := stocked(t, "wrong keys", engine)
		for want, l := range wrongItems() {
			for i, key := range l {
				what := fmt.Sprintf("the wrong key %d of %d", i, want)
				b.unchanged(what, func() {
					r, is, e := b.x.Get(key)
					same(t, what+": Get", fmt.Sprint(form(r), is, e), fmt.Sprint(form(api.Record{}), false, want))
					is, e = b.x.Delete(key)
					same(t, what+": Delete", fmt.Sprint(is, e), fmt.Sprint(false, want))
				})
			}
		}
		b.holds("behind it")
	}
}

// P19.5: keys of which there is no record, whatever they are; also such as no record could have.
func TestKeysThatAreNotThere(t *testing.T) {
	for _, engine := range engines() {
		for _, size := range sizes() {
			most := node.MostKey(size)
			b := newBed(t, "not there", engine, size, 300, by("x", "a"))
			for round := range 2 {
				for i, key := range items() {
					b.gone(fmt.Sprint("the item ", i), key)
				}
				b.gone("a key as long as may be", bin(long(most-3, 'k')))
				b.gone("a key that is too long", bin(long(most-2, 'k')))
				b.gone("a key that is far too long", bin(long(65533, 'k')))
				if round == 0 {
					b.put(rec(num(77), "a", num(1)), rec(word("key"), "a", num(0)), rec(list(num(0)), "a", null()), rec(bin(long(most/2, 'k'))))
				}
			}
			b.holds("behind it")
			b.tells("behind it")
		}
	}
}

// P19.5: keys that are nearly alike are others.
func TestKeysThatAreNearlyAlike(t *testing.T) {
	for _, engine := range engines() {
		b := newBed(t, "nearly alike", engine, 512, 1000, by("x", "a"))
		l := []api.Item{num(1), float(1), word("1"), bin("1"), list(num(1)), list(float(1)), list(list(num(1))), truth(true), num(-1), word(""), bin(""), list(), null(), truth(false), num(0), float(0), list(null())}
		for i, key := range l {
			for _, other := range l[i:] {
				b.gone("ahead of it", other)
			}
			b.put(rec(key, "a", num(int64(i%3))))
		}
		b.holds("all")
		b.tells("all")
		for i, key := range l {
			b.remove(key)
			b.gone("behind it", key)
			for _, other := range l[i+1:] {
				r, is, e := b.x.Get(other)
				same(t, "Get of another", fmt.Sprint(form(r), is, e), fmt.Sprint(form(b.want[coded(other)]), true, api.OK))
			}
			b.holds("behind a Delete")
		}
	}
}

// P19.5: a Delete takes the record out of all indexes, wherever it stands, and gives its pages back.
func TestDelete(t *testing.T) {
	for _, engine := range engines() {
		b := stocked(t, "Delete", engine)
		l, _ := b.rising(nil)
		r := chance()
		r.Shuffle(len(l), func(i, j int) { l[i], l[j] = l[j], l[i] })
		for i, x := range l {
			b.remove(x.Key)
			if i%8 == 0 {
				b.holds("some gone")
				b.tells("some gone")
			}
		}
		b.holds("all gone")
		b.tells("all gone")
		empty := newBed(t, "empty", engine, 512, 3000, b.indexes...)
		same(t, "pages that are taken", len(b.room.Taken()), len(empty.room.Taken()))
	}
}

// P19.3: Len, beside puts of new ones, of old ones, of such as are refused, and deletes.
func TestLen(t *testing.T) {
	for _, engine := range engines() {
		b := newBed(t, "Len", engine, 512, 2000, alone("x", "a"))
		counts := func(what string, want int) {
			t.Helper()
			n, e := b.x.Len()
			same(t, "Len "+what, fmt.Sprint(n, e), fmt.Sprint(want, api.OK))
		}
		counts("of none", 0)
		for i := range 200 {
			b.put(rec(num(int64(i)), "a", num(int64(i))))
			counts("behind a new one", i+1)
			b.put(rec(num(int64(i)), "a", num(int64(i)), "b", num(1)))
			b.refuses("alike", rec(num(-1), "a", num(0)), api.ErrUnique)
			counts("behind an old one", i+1)
		}
		for i := range 200 {
			b.remove(num(int64(i)), num(int64(i)), num(-1))
			counts("behind a Delete", 199-i)
		}
	}
}
