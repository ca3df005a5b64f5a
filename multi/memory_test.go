package multi_test

import (
	"bytes"
	"fmt"
	"testing"

	"espalier/api"
)

const spareRoom = 64

// roomy lays a text into memory of its own, with marked spare room behind it.
func roomy(text string) []byte {
	return append([]byte(text), bytes.Repeat([]byte{0xa5}, spareRoom)...)[:len(text)]
}

// scribble writes over bytes and the spare room behind them.
func scribble(b []byte, with byte) {
	b = b[:cap(b)]
	for i := range b {
		b[i] = with
	}
}

// untouched holds bytes that roomy has laid against what they were, and then writes over them.
func untouched(t *testing.T, what string, b []byte, want string) {
	t.Helper()
	same(t, what+": what was handed in", string(b), want)
	same(t, what+": the spare room", bytes.Count(b[len(b):len(b)+spareRoom], []byte{0xa5}), spareRoom)
	scribble(b, 0x77)
}

// P16.8: keys, values and bounds are not changed, nor the spare room behind them, and not kept: they are written over behind each call.
func TestWhatIsHandedInStays(t *testing.T) {
	for _, engine := range engines() {
		b := newBed(t, "handed in", engine, 512, 400)
		for i := range 60 {
			k, v := fmt.Sprint("k\x00", i%7), fmt.Sprint("v", i*17%60)
			for what, call := range map[string]func(key, value []byte){
				"Add":    func(key, value []byte) { b.m.Add(key, value) },
				"Has":    func(key, value []byte) { b.m.Has(key, value) },
				"Values": func(key, value []byte) { b.m.Values(key) },
				"Count":  func(key, value []byte) { b.m.Count(key) },
				"Keys":   func(key, value []byte) { b.m.Keys(key, value) },
				"Clear of none": func(key, value []byte) {
					b.m.Clear(value)
				},
				"Remove of none": func(key, value []byte) { b.m.Remove(value, key) },
			} {
				key, value := roomy(k), roomy(v)
				call(key, value)
				untouched(t, what+": the first", key, k)
				untouched(t, what+": the second", value, v)
			}
			b.want[entry(k, v)] = ""
			b.holds("written over")
			key, value := roomy(k), roomy(v)
			switch i % 5 {
			case 0:
				b.m.Remove(key, value)
				delete(b.want, entry(k, v))
			case 1:
				l, _ := b.want.row().values(k)
				b.m.Clear(key)
				for _, x := range l {
					delete(b.want, entry(k, x))
				}
			}
			untouched(t, "a key of what goes", key, k)
			untouched(t, "a value of what goes", value, v)
			b.holds("written over behind what goes")
		}
	}
}

// stocked is a tree with pairs of several lengths, some of them none.
func stocked(t *testing.T, what string, engine int) *bed {
	t.Helper()
	b := newBed(t, what, engine, 512, 400)
	for i := range 40 {
		b.add(fmt.Sprint("k\x00\x01", i%5), fmt.Sprintf("%0*d", i, i))
	}
	b.add("", "", "", "1", "k", "")
	return b
}

// P16.8: what is answered is the caller's: it may be written over, with the spare room behind it, and appended to; nothing else changes with it.
func TestWhatIsAnsweredIsNewMemory(t *testing.T) {
	for _, engine := range engines() {
		b := stocked(t, "new memory", engine)
		image := b.room.image()
		keys, _ := b.want.row().keys("", "")
		again := func() [][]byte { l, _ := b.m.Keys(nil, nil); return l }
		spoils(t, "Keys", again(), again(), keys)
		for _, key := range keys {
			want, _ := b.want.row().values(key)
			again := func() [][]byte { l, _ := b.m.Values([]byte(key)); return l }
			spoils(t, "Values", again(), again(), want)
		}
		same(t, "the pages", b.room.image() == image, true)
		b.tells("behind all", keys, []string{"", "1"})
	}
}

// spoils writes over the lists of an answer, one by one, and appends to them: those behind it, and those of another answer, stay.
func spoils(t *testing.T, what string, l, other [][]byte, want []string) {
	t.Helper()
	sameList(t, what, texts(l), want)
	for i := range l {
		scribble(l[i], 0xee)
		l[i] = append(l[i], "appended, and longer than any spare room"...)
		sameList(t, what+": those behind one that is spoilt", texts(l[i+1:]), want[i+1:])
	}
	for i := range l {
		same(t, what+": one that was appended to", bytes.HasSuffix(l[i], []byte("spare room")), true)
		same(t, what+": one that was written over", bytes.Count(l[i], []byte{0xee}), len(want[i]))
	}
	l = append(l, []byte("one more"))
	l = l[:cap(l)]
	for i := range l {
		l[i] = []byte("spoilt")
	}
	sameList(t, what+": another answer", texts(other), want)
}

// P16.8: the pairs that All tells are the caller's: written over while the range goes on, they change neither what comes nor each other.
func TestPairsOfAllAreNewMemory(t *testing.T) {
	for _, engine := range engines() {
		b := stocked(t, "new memory of All", engine)
		want, _ := b.want.row().through("", "")
		image := b.room.image()
		var l []api.Pair
		for p, e := range b.m.All() {
			same(t, "All", e, api.OK)
			same(t, "a range whose pairs are written over", asPair(p), want[len(l)])
			l = append(l, p)
			scribble(p.Key, 5)
			same(t, "a value beside its key", string(p.Value), want[len(l)-1].value)
			scribble(p.Value, 6)
			same(t, "a key beside its value", bytes.Count(p.Key, []byte{5}), len(p.Key))
			_ = append(p.Key, "appended"...)
			same(t, "a value beside its key that is appended to", bytes.Count(p.Value, []byte{6}), len(p.Value))
			_ = append(p.Value, "appended"...)
		}
		same(t, "pairs", len(l), len(want))
		for i, p := range l {
			same(t, "a key that was written over stays so", bytes.Count(p.Key, []byte{5}), len(want[i].key))
			same(t, "a value that was written over stays so", bytes.Count(p.Value, []byte{6}), len(want[i].value))
		}
		same(t, "the pages", b.room.image() == image, true)
		b.tellsAll("behind it", b.want.row())
	}
}

// P16.8: what was answered stays, whatever becomes of the tree.
func TestWhatWasAnsweredStays(t *testing.T) {
	for _, engine := range engines() {
		b := stocked(t, "stays", engine)
		wantKeys, _ := b.want.row().keys("", "")
		want, _ := b.want.row().through("", "")
		keys, _ := b.m.Keys(nil, nil)
		var values [][][]byte
		for _, key := range wantKeys {
			l, _ := b.m.Values([]byte(key))
			values = append(values, l)
		}
		var all []api.Pair
		for p := range b.m.All() {
			all = append(all, p)
		}
		for _, key := range wantKeys {
			b.m.Clear([]byte(key))
		}
		for i := range 40 {
			b.m.Add([]byte("other"), fmt.Appendf(nil, "%040d", i))
		}
		b.must("Drop", b.g.Drop("m"))
		sameList(t, "Keys", texts(keys), wantKeys)
		var got, told []pair
		for i, l := range values {
			for _, v := range l {
				got = append(got, pair{wantKeys[i], string(v)})
			}
		}
		for _, p := range all {
			told = append(told, asPair(p))
		}
		sameList(t, "Values", got, want)
		sameList(t, "All", told, want)
	}
}
