package multi_test

import (
	"fmt"
	"strings"
	"testing"

	"espalier/api"
	"espalier/node"
	"espalier/tree"
)

// oddKeys are keys that are empty, that hold what ordered bytes are marked by, and of which one begins another; as values they are as odd.
func oddKeys() []string {
	return []string{
		"", "\x00", "\x00\x00", "\x00\x01", "\x00\xff", "\x00\xff\x00\x01", "\x00\x02", "\x01", "\x01\x00", "\x02", "\xff", "\xff\x00", "\xff\xff", "\xff\x01",
		"a", "a\x00", "a\x00\x00", "a\x00\x01", "a\x00\x01a", "a\x00\x02", "a\x00\xff", "a\x00\xff\x00\x01", "a\x01", "a\xff", "aa", "ab", "b",
	}
}

// P16.2, P16.3: what is added is there, what is removed is not, and no other pair comes or goes with it; each once.
func TestOddKeysAndValues(t *testing.T) {
	t.Parallel()
	odd := oddKeys()
	for _, engine := range engines() {
		b := newBed(t, "odd keys", engine, 512, 4000)
		r := chance()
		order := r.Perm(len(odd) * len(odd))
		for i, n := range order {
			b.adds(odd[n/len(odd)], odd[n%len(odd)], true)
			b.adds(odd[n/len(odd)], odd[n%len(odd)], false)
			if i%240 == 239 {
				b.holds("added")
				b.tells("added", odd, odd)
			}
		}
		b.holds("all of them")
		b.tells("all of them", odd, odd)
		for i, n := range r.Perm(len(order)) {
			b.removes(odd[n/len(odd)], odd[n%len(odd)], true)
			b.removes(odd[n/len(odd)], odd[n%len(odd)], false)
			if i%240 == 239 {
				b.holds("removed")
				b.tells("removed", odd, odd)
			}
		}
		same(t, "pairs left", len(b.want), 0)
		b.holds("none")
		b.tells("none", odd, odd)
	}
}

// adds adds a pair; is: it was not there.
func (b *bed) adds(key, value string, is bool) {
	b.t.Helper()
	from := len(b.room.acts)
	got, e := b.m.Add([]byte(key), []byte(value))
	same(b.t, fmt.Sprintf("%s: Add(%q, %q)", b.what, key, value), e, api.OK)
	same(b.t, fmt.Sprintf("%s: Add(%q, %q)", b.what, key, value), got, is)
	b.want[entry(key, value)] = ""
	if !is {
		b.room.justRead(b.t, "Add of what is there", from)
	}
}

// removes removes a pair; is: it was there.
func (b *bed) removes(key, value string, is bool) {
	b.t.Helper()
	from := len(b.room.acts)
	got, e := b.m.Remove([]byte(key), []byte(value))
	same(b.t, fmt.Sprintf("%s: Remove(%q, %q)", b.what, key, value), e, api.OK)
	same(b.t, fmt.Sprintf("%s: Remove(%q, %q)", b.what, key, value), got, is)
	delete(b.want, entry(key, value))
	if !is {
		b.room.justRead(b.t, "Remove of what is not there", from)
	}
}

// P16.2, P16.3: pairs whose entries would be one, if the key did not say where it ends, and pairs whose entries stand beside each other.
func TestPairsThatAreNearlyAlike(t *testing.T) {
	for _, engine := range engines() {
		for _, x := range [][4]string{
			{"a", "b", "ab", ""}, {"", "ab", "a", "b"}, {"a", "\x00\x01", "a\x00\x01", ""}, {"", "\x00", "\x00", ""}, {"", "\xff\x00\x01", "\x00", ""},
			{"a", "\xff\x00\x01v", "a\x00", "v"}, {"", "", "\x00", ""}, {"a", "\xff\xff\xff", "a\x00", ""}, {"a", "\xff", "a\x01", ""}, {"a", "x", "a", "x\x00"}, {"a", "", "a", "\x00"},
		} {
			b := newBed(t, fmt.Sprintf("%q", x), engine, 512, 100)
			b.adds(x[0], x[1], true)
			b.tells("the first", []string{"", x[0], x[2]}, []string{x[1], x[3]})
			b.adds(x[2], x[3], true)
			b.tells("both", []string{"", x[0], x[2]}, []string{x[1], x[3]})
			b.holds("both")
			b.removes(x[0], x[1], true)
			b.tells("the second", []string{"", x[0], x[2]}, []string{x[1], x[3]})
			b.removes(x[2], x[3], true)
			b.holds("none")
		}
	}
}

// P16.3: an entry of MostKey bytes is taken, one more byte is too many, however it is shared out; what is too long is not there, and may be asked for.
func TestEntriesAtTheLimit(t *testing.T) {
	t.Parallel()
	for _, engine := range engines() {
		for _, size := range []int{512, 1024, 4096, 32768, 65536} {
			b := newBed(t, "at the limit", engine, size, 400)
			most := node.MostKey(size)
			for _, length := range []int{0, 1, most / 2, most - 3, most - 2} {
				key := strings.Repeat("k", length)
				value := strings.Repeat("v", most-2-length)
				b.refused(key, value+"v")
				b.adds(key, value, true)
				b.adds(key, value, false)
				b.refused(key, value+"v")
				b.tells("at the limit", []string{"", key, key + "k"}, []string{"", value, value + "v"})
			}
			// A 00 takes two bytes in a key, and one in a value.
			for _, length := range []int{1, most/2 - 2, most/2 - 1} {
				key := strings.Repeat("\x00", length)
				value := strings.Repeat("\x00", most-2-2*length)
				b.refused(key, value+"\x00")
				b.adds(key, value, true)
				b.tells("zeros at the limit", []string{"", key, key + "\x00"}, []string{"", value, value + "\x00"})
			}
			b.refused(strings.Repeat("\x00", most/2), "")
			b.refused(strings.Repeat("k", most-1), "")
			b.refused("", strings.Repeat("v", most-1))
			b.refused(strings.Repeat("k", 70000), strings.Repeat("v", 70000))
			b.holds("at the limit")
		}
	}
}

// refused: an entry that is too long is not taken, and nothing has changed; nor is it there.
func (b *bed) refused(key, value string) {
	b.t.Helper()
	what := fmt.Sprintf("%s: a key of %d bytes and a value of %d", b.what, len(key), len(value))
	image, from := b.room.image(), len(b.room.acts)
	root, n := b.g.Root()
	is, e := b.m.Add([]byte(key), []byte(value))
	same(b.t, what+": Add", fmt.Sprint(is, e), fmt.Sprint(false, api.ErrSize))
	is, e = b.m.Has([]byte(key), []byte(value))
	same(b.t, what+": Has", fmt.Sprint(is, e), fmt.Sprint(false, api.OK))
	is, e = b.m.Remove([]byte(key), []byte(value))
	same(b.t, what+": Remove", fmt.Sprint(is, e), fmt.Sprint(false, api.OK))
	b.room.justRead(b.t, what, from)
	after, k := b.g.Root()
	same(b.t, what+": the root", after, root)
	same(b.t, what+": how many trees", k, n)
	same(b.t, what+": the pages", b.room.image() == image, true)
}

// P16.3: an Add and a Remove want just as many spare pages as grove's Put and Delete do; what changes nothing wants none.
func TestSparePages(t *testing.T) {
	for _, engine := range engines() {
		for _, pairs := range []int{0, 1, 200} {
			b := newBed(t, fmt.Sprint(pairs, " pairs"), engine, 512, 400)
			for i := range pairs {
				b.add("k", fmt.Sprintf("%030d", i))
			}
			same(t, b.what+": levels", b.levels() > 1, pairs > 1)
			b.room.left = b.mayAskFor() - 1
			b.wantsRoom("one spare page too few")
			b.room.left = 0
			b.wantsRoom("no spare page")
			b.room.left = b.mayAskFor()
			b.adds("a", "new", true)
			b.room.left = b.mayAskFor()
			b.removes("a", "new", true)
			b.holds("enough spare pages")
		}
	}
}

// levels is how many the tree has.
func (b *bed) levels() int {
	b.t.Helper()
	root, _, e := b.g.Tree("m")
	b.must("Tree", e)
	height, e := tree.Height(b.room, root)
	b.must("Height", e)
	return height
}

// mayAskFor is how many pages chapter 15 says a Put or a Delete there may ask for, of a catalog of one page.
func (b *bed) mayAskFor() int { return tree.Need(b.levels()) + tree.Need(1) + 8 }

// wantsRoom: there are too few spare pages for any change.
func (b *bed) wantsRoom(what string) {
	b.t.Helper()
	what = b.what + ": " + what
	image := b.room.image()
	is, e := b.m.Add([]byte("a"), []byte("new"))
	same(b.t, what+": Add", fmt.Sprint(is, e), fmt.Sprint(false, api.ErrFull))
	is, e = b.m.Add([]byte(strings.Repeat("a", 70)), nil)
	same(b.t, what+": Add of a long key", fmt.Sprint(is, e), fmt.Sprint(false, api.ErrSize))
	b.removes("a", "new", false)
	n, e := b.m.Clear([]byte("a"))
	same(b.t, what+": Clear of none", fmt.Sprint(n, e), fmt.Sprint(0, api.OK))
	if len(b.want) > 0 {
		first := fmt.Sprintf("%030d", 0)
		b.adds("k", first, false)
		is, e = b.m.Remove([]byte("k"), []byte(first))
		same(b.t, what+": Remove", fmt.Sprint(is, e), fmt.Sprint(false, api.ErrFull))
		n, e := b.m.Clear([]byte("k"))
		same(b.t, what+": Clear", fmt.Sprint(n, e), fmt.Sprint(0, api.ErrFull))
	}
	same(b.t, what+": the pages", b.room.image() == image, true)
	b.tells(what, []string{"", "a", "k"}, []string{"", "new"})
}
