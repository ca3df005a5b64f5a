package grove_test

import (
	"bytes"
	"fmt"
	"iter"
	"testing"

	"espalier/api"
	"espalier/grove"
)

const spareRoom = 64

// roomy lays a text into memory of its own, with marked spare room behind it.
func roomy(text string) []byte {
	return append([]byte(text), bytes.Repeat([]byte{0xa5}, spareRoom)...)[:len(text)]
}

// scribble writes over bytes and the spare room behind them.
func scribble(b []byte, with byte) {
	b = b[:cap(b)]
	for i := range b {
		b[i] = with
	}
}

// untouched holds bytes that roomy has laid against what they were, and then writes over them.
func untouched(t *testing.T, what string, b []byte, want string) {
	t.Helper()
	sameText(t, what+": what was handed in", string(b), want)
	same(t, what+": the spare room", bytes.Count(b[len(b):len(b)+spareRoom], []byte{0xa5}), spareRoom)
	scribble(b, 0x77)
}

// R2: keys, values and bounds are not changed, nor the spare room behind them, and not kept: they are written over behind each call.
func TestWhatIsHandedInStays(t *testing.T) {
	for _, engine := range engines() {
		s := newShelf(engine, 512)
		g := grove.Open(s, 0, 0)
		g.Make("a")
		want := state{"a": {}}
		for i := range 60 {
			k, v := fmt.Sprint("key ", i*17%60), long(i*7, byte(i))
			key, value := roomy(k), roomy(v)
			g.Put("a", key, value)
			untouched(t, "Put: the key", key, k)
			untouched(t, "Put: the value", value, v)
			want["a"][k] = v
			root, n := g.Root()
			s.holds(t, "behind Put", root, n, want)
			key = roomy(k)
			g.Get("a", key)
			g.Rank("a", key)
			g.Delete("b", key)
			g.Put("b", key, key)
			untouched(t, "Get, Rank", key, k)
			lo, hi := roomy(k), roomy(k+"\xff")
			for range g.Scan("a", lo, hi, i%2 == 0) {
			}
			untouched(t, "Scan: lo", lo, k)
			untouched(t, "Scan: hi", hi, k+"\xff")
			if i%3 == 0 {
				key = roomy(k)
				g.Delete("a", key)
				untouched(t, "Delete", key, k)
				delete(want["a"], k)
			}
			root, n = g.Root()
			s.holds(t, "behind all", root, n, want)
		}
	}
}

// R2: the pairs of a Load are not changed and not kept.
func TestPairsOfALoadStay(t *testing.T) {
	for _, engine := range engines() {
		for _, l := range [][]pair{numbered(1, 9), numbered(40, 90), numbered(40, 200), {{"b", "1"}, {"a", "2"}}, {{"b", long(500, 'b')}, {"", ""}}} {
			g := stocked(t, "pairs", newShelf(engine, 512))
			var given []api.Pair
			for _, p := range l {
				given = append(given, api.Pair{Key: roomy(p.key), Value: roomy(p.value)})
			}
			c := g.loads("a", l...)
			_, e := g.g.Load("a", func(yield func(api.Pair) bool) {
				for _, p := range given {
					if !yield(p) {
						return
					}
				}
			})
			same(t, "Load", e, c.e)
			for i, p := range given {
				untouched(t, "Load: a key", p.Key, l[i].key)
				untouched(t, "Load: a value", p.Value, l[i].value)
			}
			if c.e == api.OK {
				g.want = c.then
			}
			root, n := g.g.Root()
			g.is = g.room.holds(t, "written over behind the call", root, n, g.want)
			g.looks()
		}
	}
}

// reused tells pairs one behind the other out of the same memory, and spoils it at the end.
func reused(l []pair) iter.Seq[api.Pair] {
	return func(yield func(api.Pair) bool) {
		key, value := make([]byte, 1000), make([]byte, 70000)
		for _, p := range l {
			scribble(key, 0xee)
			scribble(value, 0xdd)
			if !yield(api.Pair{Key: key[:copy(key, p.key)], Value: value[:copy(value, p.value)]}) {
				break
			}
		}
		scribble(key, 0)
		scribble(value, 0)
	}
}

// R2: a function may tell each pair in the memory of the one ahead of it.
func TestPairsToldInOneMemory(t *testing.T) {
	for _, engine := range engines() {
		for _, l := range [][]pair{numbered(1, 300), numbered(50, 80), numbered(50, 97), {{"a", ""}, {"b", long(65536, 'b')}, {"c", "c"}}, {{"b", ""}, {"a", ""}}, {{"a", ""}, {"a", ""}}} {
			g := stocked(t, "one memory", newShelf(engine, 512))
			c := g.loads("a", l...)
			n, e := g.g.Load("a", reused(l))
			same(t, "Load", e, c.e)
			same(t, "Load", n, c.answer)
			if e == api.OK {
				g.want = c.then
			}
			root, k := g.g.Root()
			g.room.holds(t, "told in one memory", root, k, g.want)
		}
	}
}

// R2: what is answered is the caller's: it may be written over, with the spare room behind it, and nothing else changes with it.
func TestWhatIsAnsweredIsNewMemory(t *testing.T) {
	for _, engine := range engines() {
		g := stocked(t, "new memory", newShelf(engine, 512))
		image := g.room.image()
		for i, p := range g.want.rising("a") {
			v, _, _ := g.g.Get("a", []byte(p.key))
			w, _, _ := g.g.Get("a", []byte(p.key))
			at, _, _ := g.g.At("a", i)
			again, _, _ := g.g.At("a", i)
			scribble(v, 1)
			sameText(t, "another answer of Get", string(w), p.value)
			scribble(at.Key, 2)
			sameText(t, "a value beside its key", string(at.Value), p.value)
			scribble(at.Value, 3)
			same(t, "another answer of At", asPair(again), p)
			scribble(again.Value, 4)
			sameText(t, "a key beside its value", string(again.Key), p.key)
		}
		for _, reverse := range []bool{false, true} {
			want := within(g.want.rising("a"), "", "", reverse)
			var l []api.Pair
			for p, e := range g.g.Scan("a", nil, nil, reverse) {
				same(t, "Scan", e, api.OK)
				same(t, "a range whose pairs are written over", asPair(p), want[len(l)])
				l = append(l, p)
				scribble(p.Key, 5)
				scribble(p.Value, 6)
			}
			same(t, "pairs", len(l), len(want))
			for i, p := range l {
				same(t, "a pair that was written over stays so", bytes.Count(p.Key, []byte{5}), len(want[i].key))
				same(t, "a pair that was written over stays so", bytes.Count(p.Value, []byte{6}), len(want[i].value))
			}
		}
		names, _ := g.g.Names()
		other, _ := g.g.Names()
		names = names[:cap(names)]
		for i := range names {
			names[i] = "spoilt"
		}
		sameList(t, "another answer of Names", other, []string{"a", "b", "c"})
		same(t, "the pages", g.room.image() == image, true)
		g.looks()
	}
}

// R2: what was answered stays, whatever becomes of the grove and the room's pages.
func TestWhatWasAnsweredStays(t *testing.T) {
	for _, engine := range engines() {
		g := stocked(t, "stays", newShelf(engine, 512))
		want := g.want.rising("a")
		var values [][]byte
		var l []api.Pair
		for _, p := range want {
			v, _, _ := g.g.Get("a", []byte(p.key))
			values = append(values, v)
		}
		for p := range g.g.Scan("a", nil, nil, false) {
			l = append(l, p)
		}
		names, _ := g.g.Names()
		g.g.Load("a", tells(numbered(30, 300)...).all())
		g.g.Drop("a")
		for _, b := range g.room.held {
			scribble(b, 0x66)
		}
		for i, p := range want {
			sameText(t, "Get", string(values[i]), p.value)
			same(t, "Scan", asPair(l[i]), p)
		}
		sameList(t, "Names", names, []string{"a", "b", "c"})
	}
}
