package multi_test

import (
	"fmt"
	"maps"
	"math/rand"
	"slices"
	"strings"
	"testing"

	"espalier/api"
	"espalier/node"
)

// set is a set of pairs, what a multi is.
type set map[pair]int

func (s set) rising() []pair { return slices.SortedFunc(maps.Keys(s), byKey) }

func (s set) values(key string) []string {
	var l []string
	for _, p := range s.rising() {
		if p.key == key {
			l = append(l, p.value)
		}
	}
	return l
}

func (s set) keys(lo, hi string) []string {
	var l []string
	for _, p := range s.rising() {
		if p.key >= lo && (hi == "" || p.key < hi) {
			l = append(l, p.key)
		}
	}
	return slices.Compact(l)
}

// draw is some bytes, among them often those that ordered bytes are marked by.
func draw(r *rand.Rand, most int) string {
	b := make([]byte, r.Intn(most+1))
	for i := range b {
		b[i] = []byte{0, 0, 1, 2, 0xfe, 0xff, 0xff, 'a', 'a', 'b'}[r.Intn(10)]
	}
	return string(b)
}

// drawPair is a pair whose entry is not too long: mostly a short one, so that others begin alike.
func drawPair(r *rand.Rand, size int) pair {
	most := node.MostKey(size) - 2
	key := draw(r, 3)
	if r.Intn(20) == 0 {
		key = strings.Repeat("k", r.Intn(most+1))
	}
	room := most - len(entry(key, "")) + 2
	value := draw(r, min(3, room))
	if r.Intn(4) == 0 {
		value = draw(r, room)
	}
	return pair{key, value}
}

// plot is a multi beside a set.
type plot struct {
	*bed
	r    *rand.Rand
	pick set
}

// P16.7: whatever is added, removed and cleared, a multi answers what a set of pairs answers, in both engines and in pages of unlike sizes.
func TestAMultiIsASet(t *testing.T) {
	for _, engine := range engines() {
		for _, x := range []struct{ size, phase int }{{512, 500}, {1024, 500}, {4096, 300}, {65536, 120}} {
			t.Run(fmt.Sprintf("engine %d, pages of %d", engine, x.size), func(t *testing.T) {
				t.Parallel()
				p := &plot{bed: newBed(t, "a set", engine, x.size, 900), r: chance(), pick: set{}}
				p.plays(x.phase)
			})
		}
	}
}

// plays goes through four phases of as many steps each, in turns of growth and of loss.
func (p *plot) plays(phase int) {
	p.t.Helper()
	most := 0
	for i := range 4 * phase {
		p.step(i/phase%2 == 1)
		most = max(most, len(p.pick))
		if i%25 == 24 {
			p.whole(fmt.Sprint("step ", i))
		}
		if p.t.Failed() {
			p.t.Fatalf("step %d", i)
		}
	}
	same(p.t, "many pairs have come", most > phase/5, true)
}

// step is a change or a look: pairs come, or, if less, they go.
func (p *plot) step(less bool) {
	p.t.Helper()
	x := drawPair(p.r, p.room.Size())
	if held := p.pick.rising(); len(held) > 0 && p.r.Intn(3) == 0 {
		x = held[p.r.Intn(len(held))]
	}
	key, value := []byte(x.key), []byte(x.value)
	_, there := p.pick[x]
	at := p.r.Intn(20)
	if less {
		at += 10
	}
	switch {
	case at < 14:
		is, e := p.m.Add(key, value)
		same(p.t, fmt.Sprintf("Add(%q)", x), fmt.Sprint(is, e), fmt.Sprint(!there, api.OK))
		p.pick[x]++
	case at < 16:
		is, e := p.m.Has(key, value)
		same(p.t, fmt.Sprintf("Has(%q)", x), fmt.Sprint(is, e), fmt.Sprint(there, api.OK))
	case at < 17 && p.r.Intn(3) == 0:
		want := p.pick.values(x.key)
		n, e := p.m.Clear(key)
		same(p.t, fmt.Sprintf("Clear(%q)", x.key), fmt.Sprint(n, e), fmt.Sprint(len(want), api.OK))
		for _, v := range want {
			delete(p.pick, pair{x.key, v})
		}
	default:
		is, e := p.m.Remove(key, value)
		same(p.t, fmt.Sprintf("Remove(%q)", x), fmt.Sprint(is, e), fmt.Sprint(there, api.OK))
		delete(p.pick, x)
	}
}

// whole holds all that the multi tells against the set, and the tree's entries.
func (p *plot) whole(what string) {
	p.t.Helper()
	want := p.pick.rising()
	got, e := gone(p.m, 1<<30)
	same(p.t, what+": All", e, api.OK)
	sameList(p.t, what+": All", got, want)
	keys := p.pick.keys("", "")
	for range 6 {
		lo, hi := draw(p.r, 3), draw(p.r, 3)
		if len(keys) > 0 && p.r.Intn(2) == 0 {
			lo = keys[p.r.Intn(len(keys))]
		}
		l, e := p.m.Keys([]byte(lo), []byte(hi))
		same(p.t, what+": Keys", e, api.OK)
		sameList(p.t, fmt.Sprintf("%s: Keys(%q, %q)", what, lo, hi), texts(l), p.pick.keys(lo, hi))
		values := p.pick.values(lo)
		l, e = p.m.Values([]byte(lo))
		same(p.t, what+": Values", e, api.OK)
		sameList(p.t, fmt.Sprintf("%s: Values(%q)", what, lo), texts(l), values)
		n, e := p.m.Count([]byte(lo))
		same(p.t, fmt.Sprintf("%s: Count(%q)", what, lo), fmt.Sprint(n, e), fmt.Sprint(len(values), api.OK))
	}
	l, e := p.m.Keys(nil, nil)
	same(p.t, what+": Keys of all", e, api.OK)
	sameList(p.t, what+": Keys of all", texts(l), keys)
	clear(p.want)
	for _, x := range want {
		p.want[entry(x.key, x.value)] = ""
	}
	p.holds(what)
}
