package store_test

import (
	"bytes"
	"fmt"
	"testing"

	"espalier/api"
)

const spareRoom = 64

// spacious lays a text into memory of its own, with marked spare room behind it.
func spacious(text string) []byte {
	return append([]byte(text), bytes.Repeat([]byte{0xa5}, spareRoom)...)[:len(text)]
}

// scribble writes over bytes and the spare room behind them.
func scribble(b []byte, with byte) {
	b = b[:cap(b)]
	for i := range b {
		b[i] = with
	}
}

// untouched holds bytes that spacious has laid against what they were, and then writes over them.
func untouched(t *testing.T, what string, b []byte, want string) {
	t.Helper()
	same(t, what+": what was handed in", string(b), want)
	same(t, what+": the spare room", bytes.Count(b[len(b):len(b)+spareRoom], []byte{0xa5}), spareRoom)
	scribble(b, 0x77)
}

// P17.12: keys, values and bounds are not changed, nor the spare room behind them, and not kept: they are written over behind each call.
func TestWhatIsHandedInStays(t *testing.T) {
	for _, engine := range engines() {
		r := newRig(t, engine, 512, 600)
		r.begin()
		r.make("a")
		for i := range 50 {
			k, v := fmt.Sprint("key ", i*17%50), long(i*13, byte(i))
			key, value := spacious(k), spacious(v)
			_, e := r.s.Put("a", key, value)
			must(t, "Put", e)
			untouched(t, "Put: the key", key, k)
			untouched(t, "Put: the value", value, v)
			r.working["a"][k] = v
			r.looks()
			key = spacious(k)
			r.s.Get("a", key)
			r.s.Rank("a", key)
			r.s.Delete("b", key)
			r.s.Put("b", key, key)
			untouched(t, "Get, Rank, and what is refused", key, k)
			lo, hi := spacious(k), spacious(k+"\xff")
			r.s.Scan("a", lo, hi, 9, i%2 == 0)
			untouched(t, "Scan: lo", lo, k)
			untouched(t, "Scan: hi", hi, k+"\xff")
			if i%3 == 0 {
				key = spacious(k)
				_, e := r.s.Delete("a", key)
				must(t, "Delete", e)
				untouched(t, "Delete", key, k)
				delete(r.working["a"], k)
			}
			r.looks()
			if i%10 == 0 {
				r.settle()
				r.begin()
			}
		}
		r.settle()
		v, e := r.s.View()
		must(t, "View", e)
		key, lo, hi := spacious("key 1"), spacious("key 2"), spacious("key 3")
		v.Get("a", key)
		v.Scan("a", lo, hi, 9, true)
		untouched(t, "v.Get", key, "key 1")
		untouched(t, "v.Scan: lo", lo, "key 2")
		untouched(t, "v.Scan: hi", hi, "key 3")
		viewed(t, "the view", v, r.committed)
	}
}

// P17.12: the pairs of a Load, and the list of them, are not changed and not kept.
func TestPairsOfALoadStay(t *testing.T) {
	for _, engine := range engines() {
		for _, l := range [][]pair{nil, numbered(1, 9), numbered(40, 90), numbered(40, 200), {{"b", "1"}, {"a", "2"}}, {{"b", long(500, 'b')}, {"", ""}}} {
			r := newRig(t, engine, 512, 400)
			r.begin()
			r.make("a")
			r.put("a", "old", long(300, 'o'))
			given := make([]api.Pair, 0, len(l)+3)
			for _, p := range l {
				given = append(given, api.Pair{Key: spacious(p.key), Value: spacious(p.value)})
			}
			spare := given[len(l):cap(given)]
			for i := range spare {
				spare[i].Key = []byte("spare")
			}
			want := r.loadErr("a", l)
			_, e := r.s.Load("a", given)
			same(t, "Load", e, want)
			for i, p := range given {
				untouched(t, "Load: a key", p.Key, l[i].key)
				untouched(t, "Load: a value", p.Value, l[i].value)
				given[i] = api.Pair{Key: []byte("other"), Value: []byte("other")}
			}
			for _, p := range spare {
				same(t, "Load: the list's spare room", string(p.Key) == "spare" && p.Value == nil, true)
			}
			if want == api.OK {
				r.working["a"] = map[string]string{}
				for _, p := range l {
					r.working["a"][p.key] = p.value
				}
			}
			r.looks()
			r.settle()
			r.looks()
		}
	}
}

// asks are the questions that both a store and a view answer.
type asks interface {
	Get(name string, key []byte) ([]byte, bool, api.Errno)
	Scan(name string, lo, hi []byte, limit int, reverse bool) ([]api.Pair, api.Errno)
	Names() ([]string, api.Errno)
}

// freshAnswers writes over all that is answered, and the spare room behind it: nothing else changes with it.
func freshAnswers(t *testing.T, what string, q asks, want state) {
	t.Helper()
	for name := range want {
		l := want.rising(name)
		for _, p := range l {
			b, _, _ := q.Get(name, []byte(p.key))
			other, _, _ := q.Get(name, []byte(p.key))
			scribble(b, 1)
			same(t, what+": another answer of Get", string(other), p.value)
		}
		for _, reverse := range []bool{false, true} {
			one, _ := q.Scan(name, nil, nil, 1000, reverse)
			other, _ := q.Scan(name, nil, nil, 1000, reverse)
			for i := range one {
				scribble(one[i].Key, 2)
				same(t, what+": a value beside its key", string(one[i].Value), within(l, "", "", len(l), reverse)[i].value)
				scribble(one[i].Value, 3)
			}
			for i := range one {
				same(t, what+": a key that was written over stays so", bytes.Count(one[i].Key, []byte{2}), len(one[i].Key))
				same(t, what+": a value that was written over stays so", bytes.Count(one[i].Value, []byte{3}), len(one[i].Value))
			}
			clear(one[:cap(one)])
			sameList(t, what+": another answer of Scan", asPairs(other), within(l, "", "", len(l), reverse))
		}
	}
	names, _ := q.Names()
	other, _ := q.Names()
	names = names[:cap(names)]
	for i := range names {
		names[i] = "spoilt"
	}
	sameList(t, what+": another answer of Names", other, want.names())
}

// P17.12: what is answered is the caller's.
func TestWhatIsAnsweredIsNewMemory(t *testing.T) {
	for _, engine := range engines() {
		r := lived(t, engine, 512)
		v, e := r.s.View()
		must(t, "View", e)
		freshAnswers(t, "outside", r.s, r.committed)
		freshAnswers(t, "a view", v, r.committed)
		r.begin()
		r.put("a", "new", long(300, 'n'))
		r.put("a", "short", "s")
		freshAnswers(t, "within", r.s, r.working)
		for i, p := range r.working.rising("a") {
			at, _, _ := r.s.At("a", i)
			again, _, _ := r.s.At("a", i)
			scribble(at.Key, 2)
			same(t, "a value beside its key", string(at.Value), p.value)
			scribble(at.Value, 3)
			same(t, "another answer of At", asPair(again), p)
		}
		m := v.Meta()
		m.Root, m.Txn = 99, 99
		viewed(t, "the view", v, r.committed)
		r.looks()
		r.settle()
	}
}

// P17.12: what was answered stays, whatever becomes of the store.
func TestWhatWasAnsweredStays(t *testing.T) {
	for _, engine := range engines() {
		r := lived(t, engine, 512)
		want := r.committed.rising("b/c")
		b, _, _ := r.s.Get("b/c", []byte("long"))
		l, _ := r.s.Scan("b/c", nil, nil, 9, false)
		p, _, _ := r.s.At("b/c", 0)
		names, _ := r.s.Names()
		was := r.committed.names()
		r.begin()
		r.load("b/c", numbered(30, 300)...)
		r.drop("a")
		r.commit()
		r.begin()
		r.drop("b/c")
		r.commit()
		r.s.Close()
		same(t, "Get", string(b), want[0].value)
		sameList(t, "Scan", asPairs(l), want)
		same(t, "At", asPair(p), want[0])
		sameList(t, "Names", names, was)
	}
}

// Two stores on devices of their own, and two objects over one device that only look, have nothing in common.
func TestTwoStores(t *testing.T) {
	for _, engine := range engines() {
		r, o := lived(t, engine, 512), lived(t, engine, 512)
		r.begin()
		r.put("a", "mine", "1")
		o.looks()
		o.begin()
		o.drop("a")
		r.looks()
		r.commit()
		o.looks()
		o.rollback()
		r.looks()
		second := opened(t, r.p, engine)
		r.begin()
		r.make("work")
		names, e := second.Names()
		same(t, "a second store looks at the committed state", e, api.OK)
		sameList(t, "its names", names, r.committed.names())
		freshAnswers(t, "a second store", second, r.committed)
		r.commit()
		r.whole()
	}
}
