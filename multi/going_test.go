package multi_test

import (
	"fmt"
	"slices"
	"testing"

	"espalier/api"
)

// many is a tree of several levels: some keys, with none to many values each.
func many(t *testing.T, engine, size int) *bed {
	t.Helper()
	b := newBed(t, "many pairs", engine, size, 4000)
	for i := range 12 {
		for k := range i * i {
			b.add(fmt.Sprintf("key-%02d", i), fmt.Sprintf("the value %04d", (k*37)%1000))
		}
	}
	b.add("", "", "", "\x00", "\x00", "", "key", "1", "key-04\x00", "", "key-04\x00", "2", "key-040", "3", "\xff\xff", "\xff")
	b.holds("many pairs")
	return b
}

// P16.4, P16.5: keys with none, one and many values, in trees of several levels; any bounds, empty, equal and crossed ones.
func TestManyPairs(t *testing.T) {
	t.Parallel()
	keys := []string{"", "\x00", "\x00\x00", "\x01", "k", "key", "key-", "key-00", "key-01", "key-04", "key-04\x00", "key-04\x00\x00", "key-04\x01", "key-040", "key-05", "key-11", "key-11\xff", "key-12", "\xff", "\xff\xff", "\xff\xff\x00"}
	values := []string{"", "\x00", "1", "the value 0000", "the value 0037", "the value 0360", "the value", "the value 0037\x00", "\xff"}
	for _, engine := range engines() {
		for _, size := range []int{512, 4096} {
			b := many(t, engine, size)
			b.tells("of several levels", keys, values)
			for _, key := range []string{"key-07", "", "key-11", "key-04\x00"} {
				b.clears(key)
				b.holds("cleared")
				b.tells("cleared", keys, values)
			}
		}
	}
}

// P16.4: nil and no bytes are the same key, the same value, the same bound.
func TestNilIsNone(t *testing.T) {
	for _, engine := range engines() {
		b := newBed(t, "nil", engine, 512, 100)
		is, e := b.m.Add(nil, nil)
		same(t, "Add of nil and nil", fmt.Sprint(is, e), "true 0")
		is, e = b.m.Add([]byte{}, []byte{})
		same(t, "Add of none and none", fmt.Sprint(is, e), "false 0")
		is, e = b.m.Has([]byte{}, nil)
		same(t, "Has", fmt.Sprint(is, e), "true 0")
		for _, none := range [][]byte{nil, {}} {
			n, e := b.m.Count(none)
			same(t, "Count", fmt.Sprint(n, e), "1 0")
			l, e := b.m.Values(none)
			same(t, "Values", fmt.Sprintf("%q %d", texts(l), e), `[""] 0`)
			for _, hi := range [][]byte{nil, {}} {
				l, e = b.m.Keys(none, hi)
				same(t, "Keys", fmt.Sprintf("%q %d", texts(l), e), `[""] 0`)
			}
		}
		is, e = b.m.Remove([]byte{}, nil)
		same(t, "Remove", fmt.Sprint(is, e), "true 0")
		n, e := b.m.Clear(nil)
		same(t, "Clear", fmt.Sprint(n, e), "0 0")
	}
}

// P16.6, R7: All left behind each of its pairs: then nothing more is told, and nothing read.
func TestAllLeftEarly(t *testing.T) {
	for _, engine := range engines() {
		b := newBed(t, "left early", engine, 512, 400)
		for i := range 90 {
			b.add(fmt.Sprint(i%9), fmt.Sprintf("%020d", i))
		}
		want, _ := b.want.row().through("", "")
		reads := 0
		for most := 1; most <= len(want); most++ {
			b.room.acts = nil
			l, e := gone(b.m, most)
			same(t, "All left early", e, api.OK)
			sameList(t, fmt.Sprint("left behind ", most), l, want[:most])
			b.room.justRead(t, "All left early", 0)
			same(t, "as many pages are read at least the later it is left", len(b.room.acts) >= reads, true)
			reads = len(b.room.acts)
		}
		b.room.acts = nil
		gone(b.m, 1)
		same(t, "fewer pages are read the earlier it is left", len(b.room.acts) < reads, true)
	}
}

// P16.6, R7: All gone through again, within itself, and beside other looks.
func TestAllAgain(t *testing.T) {
	for _, engine := range engines() {
		b := newBed(t, "again", engine, 512, 400)
		for i := range 30 {
			b.add(fmt.Sprint(i%5), fmt.Sprintf("%020d", i))
		}
		want, _ := b.want.row().through("", "")
		all := b.m.All()
		for range 3 {
			var outer []pair
			for p, e := range all {
				same(t, "All", e, api.OK)
				outer = append(outer, asPair(p))
				var inner []pair
				for q := range all {
					inner = append(inner, asPair(q))
					if len(inner) == len(outer) {
						break
					}
				}
				sameList(t, "All within itself", inner, want[:len(outer)])
				b.tellsKey("within All", asPair(p).key, b.want.row())
				is, e := b.m.Has(p.Key, p.Value)
				same(t, "Has within All", fmt.Sprint(is, e), "true 0")
			}
			sameList(t, "All again", outer, want)
		}
	}
}

// P16.6, R7: All tells what there is when a range begins, whatever there was when it was called.
func TestAllBehindChanges(t *testing.T) {
	for _, engine := range engines() {
		b := newBed(t, "behind changes", engine, 512, 400)
		all := b.m.All()
		tellsAll := func() string {
			s := ""
			for p, e := range all {
				s += fmt.Sprintf("%s=%s/%d ", p.Key, p.Value, e)
			}
			return s
		}
		same(t, "none", tellsAll(), "")
		b.add("b", "2", "b", "1", "a", "3")
		same(t, "three", tellsAll(), "a=3/0 b=1/0 b=2/0 ")
		b.removes("b", "1", true)
		b.clears("a")
		same(t, "one", tellsAll(), "b=2/0 ")
		b.put("c", "")
		same(t, "and a foreign one", tellsAll(), "b=2/0 =/160 ")
		b.put("a", "v")
		same(t, "and one ahead of it", tellsAll(), "=/160 ")
		b.must("Drop", b.g.Drop("m"))
		same(t, "no tree", tellsAll(), "=/150 ")
		b.must("Make", b.g.Make("m"))
		same(t, "an empty tree", tellsAll(), "")
	}
}

// P16.6, R7: a range that is left ahead of a foreign entry is told no error, one that is left at it is told no more; both may be gone through again.
func TestAllLeftAtAForeignEntry(t *testing.T) {
	for _, engine := range engines() {
		b := newBed(t, "left at a foreign entry", engine, 512, 400)
		b.add("a", "1", "a", "2", "c", "1")
		b.put("b", "")
		b.put("d", "")
		for most := 1; most <= 2; most++ {
			l, e := gone(b.m, most)
			same(t, "left ahead of it", fmt.Sprint(len(l), e), fmt.Sprint(most, api.OK))
		}
		for range 2 {
			told := 0
			for p, e := range b.m.All() {
				told++
				if e != api.OK {
					same(t, "the last one", fmt.Sprint(asPair(p), e, told), "{ } 160 3")
					break
				}
			}
			same(t, "told", told, 3)
		}
	}
}

// P16.5: each key is told once, rising, however many values it has, also where its entries stand in several pages.
func TestKeysOnce(t *testing.T) {
	for _, engine := range engines() {
		b := newBed(t, "once", engine, 512, 400)
		for i := range 300 {
			b.add(fmt.Sprint("k", i%3), fmt.Sprintf("%020d", i))
		}
		b.add("", "1", "", "2")
		l, e := b.m.Keys(nil, nil)
		same(t, "Keys", e, api.OK)
		sameList(t, "Keys", texts(l), []string{"", "k0", "k1", "k2"})
		for _, key := range []string{"k0", "k1", "k2"} {
			l, e := b.m.Values([]byte(key))
			same(t, "Values", e, api.OK)
			same(t, "Values", len(l), 100)
			same(t, "Values rise", slices.IsSorted(texts(l)), true)
		}
	}
}
