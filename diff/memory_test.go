package diff_test

import (
	"bytes"
	"fmt"
	"testing"

	"espalier/api"
	"espalier/diff"
)

const spareRoom = 64

// spacious lays a text into memory of its own, with marked spare room behind it.
func spacious(text string) []byte {
	return append([]byte(text), bytes.Repeat([]byte{0xa5}, spareRoom)...)[:len(text)]
}

// scribble writes over bytes and the spare room behind them.
func scribble(b []byte, with byte) {
	b = b[:cap(b)]
	for i := range b {
		b[i] = with
	}
}

// untouched holds bytes that spacious has laid against what they were, and then writes over them.
func untouched(t *testing.T, what string, b []byte, want string) {
	t.Helper()
	same(t, what+": what was handed in", string(b), want)
	same(t, what+": the spare room", bytes.Count(b[len(b):len(b)+spareRoom], []byte{0xa5}), spareRoom)
	scribble(b, 0x77)
}

// spaciously is the same changes, in memory with spare room.
func spaciously(l []api.Change) []api.Change {
	out := make([]api.Change, 0, len(l)+2)
	for _, c := range l {
		c.Key, c.Old, c.New = spacious(string(c.Key)), spacious(string(c.Old)), spacious(string(c.New))
		out = append(out, c)
	}
	out[len(l) : len(l)+1][0].Tree = "spare"
	return out
}

// P22.7: what Apply is handed is neither changed nor kept.
func TestApplyLeavesWhatIsHandedIn(t *testing.T) {
	for _, engine := range engines() {
		r := newRig(t, engine, 512, 900)
		a := r.make("a", "b").load("a", numbered(50, 40)).put("b", "k", long(1000, 'k')).commit()
		b := r.load("a", numbered(40, 41)).put("b", "k", long(900, 'k')).make("c").put("c", "l", long(97, 'l')).put("c", "m", "").commit()
		for i := range 4 {
			from, to := b, a
			if i%2 == 1 {
				from, to = a, b
			}
			want := differs(from.has, to.has)
			given := spaciously(want)
			r.apply("spaciously", given, to.has)
			for j, c := range given {
				same(t, "a change", asText(c), asText(want[j]))
				untouched(t, "a key", c.Key, string(want[j].Key))
				untouched(t, "an old value", c.Old, string(want[j].Old))
				untouched(t, "a new value", c.New, string(want[j].New))
				given[j] = ofPair("b", "spoilt", none, "x")
			}
			same(t, "the list's spare room", given[len(want) : len(want)+1][0].Tree, "spare")
			r.stands("behind that")
			r.commit().v.Close()
			r.stands("behind a commit")
		}
	}
}

// P22.7: what is told and listed is the caller's: all of it may be written over, while a range goes on, too.
func TestAnswersAreNewMemory(t *testing.T) {
	for _, engine := range engines() {
		r := newRig(t, engine, 512, 900)
		a := r.make("a", "b", "x").load("a", numbered(50, 40)).put("b", "k", long(1000, 'k')).put("x", "y", "z").commit()
		b := r.load("a", numbered(60, 41)).put("b", "k", long(900, 'k')).drop("x").make("c").put("c", "l", long(97, 'l')).put("c", "m", "").commit()
		want := asTexts(differs(a.has, b.has))
		other, _, e := diff.List(a.v, b.v)
		must(t, "List", e)
		var got, kept []string
		var all []api.Change
		for c, e := range diff.Between(a.v, b.v) {
			must(t, "Between", e)
			got = append(got, asText(c))
			for i, b := range [][]byte{c.Key, c.Old, c.New} {
				scribble(b, byte(20+i))
			}
			all = append(all, c)
			kept = append(kept, asText(c))
		}
		sameList(t, "told, though all is written over", got, want)
		sameList(t, "what was told shares nothing", asTexts(all), kept)
		one, _, _ := diff.List(a.v, b.v)
		for i := range one {
			for j, b := range [][]byte{one[i].Key, one[i].Old, one[i].New} {
				scribble(b, byte(30+j))
			}
			for j, b := range [][]byte{one[i].Key, one[i].Old, one[i].New} {
				same(t, fmt.Sprint("change ", i, ", part ", j), bytes.Count(b, []byte{byte(30 + j)}), len(b))
			}
			one[i].Tree = "spoilt"
		}
		clear(one[:cap(one)])
		sameList(t, "another List", asTexts(other), want)
		bothWays(t, "behind that", a, b)
	}
}

// P22.7: what was listed stays, whatever becomes of the store.
func TestAnswersStay(t *testing.T) {
	for _, engine := range engines() {
		r := newRig(t, engine, 512, 900)
		a := r.make("a").load("a", numbered(50, 40)).commit()
		b := r.load("a", numbered(60, 300)).commit()
		l, _, e := diff.List(a.v, b.v)
		must(t, "List", e)
		a.v.Close()
		b.v.Close()
		r.drop("a").make("b").load("b", numbered(90, 200)).commit().v.Close()
		r.load("b", numbered(90, 201)).commit().v.Close()
		must(t, "Close", r.s.Close())
		sameList(t, "what was listed", asTexts(l), asTexts(differs(a.has, b.has)))
	}
}
