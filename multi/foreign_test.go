package multi_test

import (
	"fmt"
	"strings"
	"testing"

	"espalier/api"
)

// noKeys are keys of a tree that begin with nothing that ink.Ordered writes: the end is wanting, or a 00 has a wrong mark behind it.
func noKeys() []string {
	return []string{"\x00", "\x00\x00", "\x00\x02", "\x00\xfe", "\x00\xff", "\x00\xff\x00", "\x01", "A", "a", "a\x00", "a\x00\x00", "a\x00\x00\x00\x01", "a\x00\x02", "a\x00\x02\x00\x01", "a\x00\xff", "a\x00\xff\x00", "a\x00\xff\x00\x02", "a\x01", "ab", "b", "c", "c\x00\x02", "d", "\xff"}
}

func someKeys() []string {
	return []string{"", "\x00", "\x01", "A", "a", "a\x00", "a\x00\x00", "ab", "b", "c", "d", "\xff"}
}

func someValues() []string { return []string{"", "\x00", "1", "2", "3", "x", "\xff"} }

// P16.2 to P16.6: a foreign entry wherever it may stand: what is gone through up to it, and what is gone through beside it.
func TestForeignKeys(t *testing.T) {
	t.Parallel()
	for _, engine := range engines() {
		b := newBed(t, "foreign keys", engine, 512, 400)
		b.add("", "1", "", "", "\x00", "1", "a", "", "a", "1", "a", "3", "a\x00", "2", "b", "1", "b", "2", "d", "\xff")
		b.tells("none", someKeys(), someValues())
		for _, key := range noKeys() {
			for _, value := range []string{"", "v", strings.Repeat("v", 300)} {
				c := b.copied()
				c.put(key, value)
				c.tells(fmt.Sprintf("the key %q, a value of %d bytes", key, len(value)), someKeys(), someValues())
				c.changes(someKeys(), someValues())
			}
		}
	}
}

// P16.2 to P16.6: an entry of a pair that has a byte as its value is foreign, too; a long one as well.
func TestForeignValues(t *testing.T) {
	t.Parallel()
	for _, engine := range engines() {
		b := newBed(t, "foreign values", engine, 512, 400)
		b.add("", "1", "a", "1", "a", "3", "a\x00", "2", "b", "2", "d", "\xff")
		for _, x := range []pair{
			{"", ""}, {"", "1"}, {"", "2"}, {"\x00", ""}, {"a", ""}, {"a", "1"}, {"a", "2"}, {"a", "3"}, {"a", "\xff"}, {"a\x00", "1"}, {"a\x00", "2"}, {"ab", ""}, {"b", "1"}, {"b", "3"}, {"c", "1"}, {"d", "x"}, {"\xff", "\xff"},
		} {
			for _, value := range []string{"\x00", "v", strings.Repeat("v", 97), strings.Repeat("v", 3000)} {
				c := b.copied()
				c.put(entry(x.key, x.value), value)
				c.tells(fmt.Sprintf("a value of %d bytes at %q", len(value), x), someKeys(), someValues())
				c.changes(someKeys(), someValues())
			}
		}
	}
}

// P16.3, P16.4: several foreign entries, which come and go.
func TestForeignEntriesThatComeAndGo(t *testing.T) {
	t.Parallel()
	for _, engine := range engines() {
		r := chance()
		b := newBed(t, "foreign entries that come and go", engine, 512, 4000)
		keys, values, odd := someKeys(), someValues(), noKeys()
		for i := range 600 {
			key, value := keys[r.Intn(len(keys))], values[r.Intn(len(values))]
			switch r.Intn(12) {
			case 0:
				b.put(odd[r.Intn(len(odd))], values[r.Intn(len(values))])
			case 1:
				b.put(entry(key, value), strings.Repeat("v", r.Intn(200)))
			case 2, 3, 4:
				at := odd[r.Intn(len(odd))]
				_, e := b.g.Delete("m", []byte(at))
				b.must("Delete", e)
				delete(b.want, at)
			case 5:
				b.put(entry(key, value), "")
			case 6:
				b.clears(key)
			case 7:
				b.takesOut(key, value)
			default:
				b.takesIn(key, value)
			}
			if i%20 == 19 {
				b.holds("a script")
				b.tells("a script", keys, values)
			}
		}
	}
}

// takesIn, takesOut, clears: a change, held against the chapter's words of what the tree has.
func (b *bed) takesIn(key, value string) {
	b.t.Helper()
	is, want := b.want.row().has(key, value)
	got, e := b.m.Add([]byte(key), []byte(value))
	same(b.t, fmt.Sprintf("%s: Add(%q, %q)", b.what, key, value), e, want)
	same(b.t, fmt.Sprintf("%s: Add(%q, %q)", b.what, key, value), got, !is && want == api.OK)
	if want == api.OK {
		b.want[entry(key, value)] = ""
	}
}

func (b *bed) takesOut(key, value string) {
	b.t.Helper()
	is, want := b.want.row().has(key, value)
	got, e := b.m.Remove([]byte(key), []byte(value))
	same(b.t, fmt.Sprintf("%s: Remove(%q, %q)", b.what, key, value), e, want)
	same(b.t, fmt.Sprintf("%s: Remove(%q, %q)", b.what, key, value), got, is)
	if want == api.OK {
		delete(b.want, entry(key, value))
	}
}

func (b *bed) clears(key string) {
	b.t.Helper()
	l, want := b.want.row().values(key)
	n, e := b.m.Clear([]byte(key))
	same(b.t, fmt.Sprintf("%s: Clear(%q)", b.what, key), e, want)
	same(b.t, fmt.Sprintf("%s: Clear(%q)", b.what, key), n, len(l))
	for _, value := range l {
		delete(b.want, entry(key, value))
	}
}

// changes makes each change of these keys and values, and takes it back. What is refused has changed nothing.
func (b *bed) changes(keys, values []string) {
	b.t.Helper()
	for _, key := range keys {
		for _, value := range values {
			held, is := b.want[entry(key, value)]
			image, refused := b.room.image(), held != ""
			b.takesIn(key, value)
			b.takesOut(key, value)
			if refused {
				same(b.t, b.what+": the pages behind what was refused", b.room.image() == image, true)
			}
			if is && !refused {
				b.takesIn(key, value)
			}
		}
		l, e := b.want.row().values(key)
		image := b.room.image()
		b.clears(key)
		if e != api.OK {
			same(b.t, b.what+": the pages behind a Clear that was refused", b.room.image() == image, true)
		}
		for _, value := range l {
			b.takesIn(key, value)
		}
	}
	b.holds("behind changes")
	if b.t.Failed() {
		b.t.FailNow()
	}
}

// P16.2 to P16.6, said out: what a foreign entry hinders, and what it does not.
func TestWhatAForeignEntryHinders(t *testing.T) {
	for _, engine := range engines() {
		b := newBed(t, "hindered", engine, 512, 400)
		b.add("a", "1", "a", "3", "b", "1", "c", "1")
		b.put("a\x00\x012", "v")
		is, e := b.m.Has([]byte("a"), []byte("2"))
		same(t, "Has of it", fmt.Sprint(is, e), "false 160")
		is, e = b.m.Add([]byte("a"), []byte("2"))
		same(t, "Add of it", fmt.Sprint(is, e), "false 160")
		is, e = b.m.Remove([]byte("a"), []byte("2"))
		same(t, "Remove of it", fmt.Sprint(is, e), "false 160")
		is, e = b.m.Has([]byte("a"), []byte("3"))
		same(t, "Has of another value of its key", fmt.Sprint(is, e), "true 0")
		n, e := b.m.Count([]byte("a"))
		same(t, "Count of its key", fmt.Sprint(n, e), "0 160")
		n, e = b.m.Clear([]byte("a"))
		same(t, "Clear of its key", fmt.Sprint(n, e), "0 160")
		n, e = b.m.Count([]byte("b"))
		same(t, "Count of another key", fmt.Sprint(n, e), "1 0")
		l, e := b.m.Keys([]byte("b"), nil)
		same(t, "Keys behind it", fmt.Sprint(len(l), e), "2 0")
		l, e = b.m.Keys(nil, []byte("a"))
		same(t, "Keys ahead of it", fmt.Sprint(len(l), e), "0 0")
		l, e = b.m.Keys([]byte("a"), []byte("b"))
		same(t, "Keys that it is among", fmt.Sprint(len(l), e), "0 160")
		all, e := gone(b.m, 1<<30)
		same(t, "All", fmt.Sprint(all, e), "[{a 1}] 160")
		b.holds("behind all")
		// Ahead of the entries of the empty key only All meets an entry.
		b = newBed(t, "ahead of all", engine, 512, 400)
		b.add("", "1", "a", "1")
		b.put("\x00\x00", "")
		l, e = b.m.Keys(nil, nil)
		same(t, "Keys behind one that is ahead of all", fmt.Sprint(len(l), e), "2 0")
		n, e = b.m.Clear(nil)
		same(t, "Clear behind one that is ahead of all", fmt.Sprint(n, e), "1 0")
		all, e = gone(b.m, 1<<30)
		same(t, "All with one that is ahead of all", fmt.Sprint(len(all), e), "0 160")
	}
}

// P16.2 to P16.4, R5: where a foreign entry and a room without a spare page both hinder, the foreign entry is named.
func TestForeignEntriesInAFullRoom(t *testing.T) {
	for _, engine := range engines() {
		b := newBed(t, "a full room", engine, 512, 400)
		b.add("a", "1", "a", "3", "b", "1")
		for _, at := range []string{"0", "2", "4"} {
			c := b.copied()
			c.put("a\x00\x01"+at, strings.Repeat("v", 200))
			c.room.left = 0
			c.room.acts = nil
			is, e := c.m.Add([]byte("a"), []byte(at))
			same(t, "Add", fmt.Sprint(is, e), "false 160")
			is, e = c.m.Remove([]byte("a"), []byte(at))
			same(t, "Remove", fmt.Sprint(is, e), "false 160")
			n, e := c.m.Clear([]byte("a"))
			same(t, "Clear", fmt.Sprint(n, e), "0 160")
			c.room.justRead(t, "what a foreign entry hinders", 0)
			n, e = c.m.Clear([]byte("b"))
			same(t, "Clear of another key", fmt.Sprint(n, e), "0 5")
		}
	}
}
