package ship_test

import (
	"bytes"
	"fmt"
	"slices"
	"testing"

	"espalier/api"
	"espalier/plate"
	"espalier/ship"
)

// all is a list up to the end of its spare room.
func all[T any](l []T) []T { return l[:cap(l)] }

// spoil writes over bytes and their spare room.
func spoil(b []byte) {
	for i := range all(b) {
		all(b)[i] ^= 0xa5
	}
}

// spoilDelta writes over all that a delta leads to.
func spoilDelta(d api.Delta) {
	spoil(d.Meta)
	for i := range all(d.Pages) {
		spoil(all(d.Pages)[i].Data)
		all(d.Pages)[i] = api.PageData{Page: -9, Data: []byte("spoilt")}
	}
}

// roomy is a delta with spare room behind each of its lists, filled with marks.
func roomy(d api.Delta) api.Delta {
	with := func(b []byte) []byte {
		return append(make([]byte, 0, len(b)+9), slices.Concat(b, []byte("marks...."))...)[:len(b)]
	}
	d.Meta = with(d.Meta)
	l := make([]api.PageData, 0, len(d.Pages)+2)
	for _, p := range d.Pages {
		l = append(l, api.PageData{Page: p.Page, Data: with(p.Data)})
	}
	l = append(l, api.PageData{Page: 77, Data: []byte("marks")}, api.PageData{Page: 78})
	d.Pages = l[:len(d.Pages)]
	return d
}

// whole is a delta as text, with all spare room.
func whole(d api.Delta) string {
	text := fmt.Sprint(d.Engine, d.Page, d.From, d.To, len(d.Meta), all(d.Meta), len(d.Pages))
	for _, p := range all(d.Pages) {
		text += fmt.Sprint(p.Page, len(p.Data), all(p.Data))
	}
	return text
}

// P23.8: what Take answers is new memory: written over, it reaches neither the store, nor another answer, nor another page of its own.
func TestTakesMemory(t *testing.T) {
	for _, engine := range engines() {
		r, v := table(t, engine)
		image := r.p.Image()
		one, two := take(t, v[1], v[3]), take(t, v[1], v[3])
		for i := range one.Pages {
			want := copied(one)
			spoil(one.Pages[i].Data)
			one.Pages[i].Data = want.Pages[i].Data
			sameDelta(t, "another page of its own", one, want)
		}
		spoilDelta(one)
		sameDelta(t, "another answer", two, delta(v[1], v[3]))
		take(t, v[1], v[3])
		take(t, nil, v[2])
		same(t, "the store's device", bytes.Equal(r.p.Image(), image), true)
		m := v[3].v.Meta()
		same(t, "the view's meta", m.Txn, 3)
	}
}

// P23.8: Encode and Decode neither change nor keep what they are handed, their answers share nothing with it.
func TestBytesMemory(t *testing.T) {
	for _, engine := range engines() {
		_, v := table(t, engine)
		d := roomy(take(t, v[1], v[3]))
		before, good := whole(d), laid(d)
		b, e := ship.Encode(d)
		must(t, "Encode", e)
		c, e := ship.Encode(d)
		must(t, "Encode", e)
		same(t, "what was handed in", whole(d) == before, true)
		spoil(b)
		same(t, "what was handed in, behind the answer is spoilt", whole(d) == before, true)
		same(t, "another answer", bytes.Equal(c, good), true)
		spoilDelta(d)
		same(t, "the answer, behind what was handed in is spoilt", bytes.Equal(c, good), true)

		in := append(make([]byte, 0, len(good)+8), good...)
		copy(all(in)[len(in):], "marks...")
		mark := string(all(in))
		x, e := ship.Decode(in)
		must(t, "Decode", e)
		y, e := ship.Decode(in)
		must(t, "Decode", e)
		same(t, "what was handed in", string(all(in)) == mark, true)
		want := copied(y)
		for i := range x.Pages {
			keep := copied(x)
			spoil(x.Pages[i].Data)
			x.Pages[i].Data = keep.Pages[i].Data
			sameDelta(t, "another page of its own", x, keep)
		}
		spoilDelta(x)
		same(t, "what was handed in", string(all(in)) == mark, true)
		sameDelta(t, "another answer", y, want)
		spoil(in)
		sameDelta(t, "the answer, behind what was handed in is spoilt", y, want)
	}
}

// P23.8: refused ones, too, are left as they are.
func TestRefusedMemory(t *testing.T) {
	for _, engine := range engines() {
		f := follow(t, plate.New(512, 24))
		for what, d := range spoilt(t, engine) {
			d = roomy(d)
			before := whole(d)
			ship.Encode(d)
			f.Apply(d)
			same(t, what, whole(d) == before, true)
			b := append(make([]byte, 0, 4000), laid(d)...)
			mark := string(all(b))
			ship.Decode(b)
			ship.Decode(b[:len(b)/2])
			same(t, what+": its bytes", string(all(b)) == mark, true)
		}
	}
}

// P23.8: a follower keeps nothing of a delta, changes nothing of it, and has nothing in common with another one.
func TestFollowersMemory(t *testing.T) {
	for _, engine := range engines() {
		_, v := table(t, engine)
		p, q := plate.New(512, 400), plate.New(512, 400)
		f, g := follow(t, p), follow(t, q)
		for _, y := range [][2]*point{{nil, v[1]}, {v[1], v[3]}, {v[3], v[3]}, {nil, v[0]}, {v[0], v[2]}} {
			d := roomy(take(t, y[0], y[1]))
			before := whole(d)
			must(t, "Apply", f.Apply(d))
			same(t, "what was handed in", whole(d) == before, true)
			spoilDelta(d)
			has(t, "the follower", f, p, y[1])
		}
		hasNothing(t, "another one", g)
		same(t, "another one's device", bytes.Equal(q.Image(), make([]byte, 400*512)), true)
		must(t, "Apply", g.Apply(take(t, nil, v[1])))
		has(t, "the follower", f, p, v[2])
		has(t, "another one", g, q, v[1])
		p.Crash(api.Fall{Torn: -1})
		isDown(t, "the follower", f, 2)
		has(t, "another one", g, q, v[1])
		must(t, "Apply", g.Apply(take(t, v[1], v[2])))
		has(t, "another one", g, q, v[2])
	}
}

// R6: the same calls are answered the same way, however often.
func TestTheSameAgain(t *testing.T) {
	for _, engine := range engines() {
		_, v := table(t, engine)
		var first string
		for range 5 {
			_, w := table(t, engine)
			d := take(t, w[1], w[3])
			b, e := ship.Encode(d)
			must(t, "Encode", e)
			if first == "" {
				first = string(b)
			}
			same(t, "another store of the same life", string(b) == first, true)
		}
		b, e := ship.Encode(take(t, v[1], v[3]))
		must(t, "Encode", e)
		same(t, "the same store", string(b) == first, true)
	}
}
