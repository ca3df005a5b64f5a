package grove_test

import (
	"fmt"
	"math"
	"slices"
	"strings"
	"testing"

	"espalier/api"
	"espalier/bulk"
	"espalier/grove"
)

// garden is a grove on a shelf, and beside it the maps that it must be.
type garden struct {
	t    *testing.T
	what string
	room *shelf
	g    *grove.Grove
	want state
	is   survey
}

func planted(t *testing.T, what string, s *shelf) *garden {
	return &garden{t: t, what: what, room: s, g: grove.Open(s, 0, 0), want: state{}}
}

// change is a change as the chapter's words tell it.
type change struct {
	what   string
	do     func(g *grove.Grove) (int, api.Errno)
	answer int
	e      api.Errno
	ask    int // how many pages it may ask for; below 0: it asks for none
	then   state
}

// need is chapter 12's Need, mostKey and mostValue chapter 8's, chainPages chapter 9's Pages.
func need(levels int) int { return 4 + 3*levels }

func mostKey(size int) int { return size / 8 }

func mostValue(size int) int { return size / 16 * 3 }

func chainPages(size, n int) int {
	if n <= mostValue(size) {
		return 0
	}
	return (n + size - 17) / (size - 16)
}

func asInt(is bool, e api.Errno) (int, api.Errno) {
	if is {
		return 1, e
	}
	return 0, e
}

func (g *garden) isPair(p pair) bool {
	return len(p.key) >= 1 && len(p.key) <= mostKey(g.room.size) && len(p.value) <= 65536
}

func (g *garden) makes(name string) change {
	c := change{what: fmt.Sprintf("Make(%q)", name), ask: need(g.is.catalog.levels) + 8, then: g.want.copied()}
	c.do = func(g *grove.Grove) (int, api.Errno) { return 0, g.Make(name) }
	switch {
	case !isName(name):
		c.e = api.ErrName
	case g.want[name] != nil:
		c.e = api.ErrThere
	case len(g.want) == 256:
		c.e = api.ErrTrees
	default:
		c.then[name] = map[string]string{}
	}
	return c
}

func (g *garden) drops(name string) change {
	c := change{what: fmt.Sprintf("Drop(%q)", name), ask: need(g.is.catalog.levels) + 8, then: g.want.copied()}
	c.do = func(g *grove.Grove) (int, api.Errno) { return 0, g.Drop(name) }
	if g.want[name] == nil {
		c.e = api.ErrNoTree
	}
	delete(c.then, name)
	return c
}

func (g *garden) puts(name, key, value string) change {
	c := change{what: fmt.Sprintf("Put(%q, %.20q, %d bytes)", name, key, len(value)), then: g.want.copied()}
	c.ask = need(g.is.trees[name].levels) + need(g.is.catalog.levels) + 8 + chainPages(g.room.size, len(value))
	c.do = func(g *grove.Grove) (int, api.Errno) { return asInt(g.Put(name, []byte(key), []byte(value))) }
	switch {
	case g.want[name] == nil:
		c.e = api.ErrNoTree
	case !g.isPair(pair{key, value}):
		c.e = api.ErrSize
	default:
		_, was := g.want[name][key]
		c.answer, _ = asInt(was, api.OK)
		c.then[name][key] = value
	}
	return c
}

func (g *garden) deletes(name, key string) change {
	c := change{what: fmt.Sprintf("Delete(%q, %.20q)", name, key), ask: -1, then: g.want.copied()}
	c.do = func(g *grove.Grove) (int, api.Errno) { return asInt(g.Delete(name, []byte(key))) }
	_, was := g.want[name][key]
	switch {
	case g.want[name] == nil:
		c.e = api.ErrNoTree
	case !g.isPair(pair{key, ""}):
		c.e = api.ErrSize
	case was:
		c.answer, c.ask = 1, need(g.is.trees[name].levels)+need(g.is.catalog.levels)+8
		delete(c.then[name], key)
	}
	return c
}

func (g *garden) loads(name string, l ...pair) change {
	c := change{what: fmt.Sprintf("Load(%q, %d pairs)", name, len(l)), ask: need(g.is.catalog.levels) + 8, then: g.want.copied()}
	told := len(l)
	began := 1
	c.do = func(of *grove.Grove) (int, api.Errno) {
		w := tells(l...)
		n, e := of.Load(name, w.all())
		if w.began == 0 && e != c.e && e != api.ErrFull {
			// An error of the room has come ahead of them.
			return n, e
		}
		same(g.t, c.what+": how often the pairs were gone through", w.began, began)
		same(g.t, c.what+": pairs told", w.told, told)
		return n, e
	}
	if g.want[name] == nil {
		c.e, told, began = api.ErrNoTree, 0, 0
		return c
	}
	c.then[name] = map[string]string{}
	var cells []api.Cell
	for i, p := range l {
		switch {
		case !g.isPair(p):
			c.e, told = api.ErrSize, i+1
			return c
		case i > 0 && l[i-1].key >= p.key:
			c.e, told = api.ErrSorted, i+1
			return c
		}
		c.then[name][p.key] = p.value
		c.ask += chainPages(g.room.size, len(p.value))
		cells = append(cells, cellOf(g.room.size, p))
	}
	pages, e := bulk.Need(g.room.engine, g.room.size, 224, cells)
	same(g.t, c.what+": bulk's Need", e, api.OK)
	c.ask += pages
	c.answer = len(l)
	return c
}

// cellOf is the cell of a pair that bulk's Need is asked of.
func cellOf(size int, p pair) api.Cell {
	if len(p.value) > mostValue(size) {
		return spilled(p.key, 65535, len(p.value))
	}
	return value(p.key, p.value)
}

// try does a change in a room: it is answered as it should be, and the grove is as it should be then.
func (g *garden) try(what string, s *shelf, c change) (*grove.Grove, survey) {
	g.t.Helper()
	what = g.what + ": " + c.what + what
	root, count := g.g.Root()
	at := grove.Open(s, root, count)
	from, image := len(s.acts), ""
	if c.e != api.OK {
		image = s.image()
	}
	answer, e := c.do(at)
	same(g.t, what, e, c.e)
	same(g.t, what, answer, c.answer)
	if g.t.Failed() {
		g.t.FailNow()
	}
	if c.e == api.OK {
		root, count = at.Root()
		return at, s.holds(g.t, what, root, count, c.then)
	}
	s.justAsked(g.t, what, from)
	same(g.t, what+": the pages are as they were", s.image() == image, true)
	r, n := at.Root()
	same(g.t, what+": the root", r, root)
	same(g.t, what+": how many trees", n, count)
	if g.t.Failed() {
		g.t.FailNow()
	}
	return at, g.is
}

// does does a change: first in copies of the room that have just as many spare pages as it may ask for, or one fewer, fresh or not; then in the room itself.
func (g *garden) does(c change) {
	g.t.Helper()
	if c.e != api.OK || c.ask < 0 {
		g.asksForNone(c)
	} else {
		g.justEnough(c, g.room.copied())
		g.justEnough(c, g.room.settled())
	}
	g.g, g.is = g.try("", g.room, c)
	if c.e == api.OK {
		g.want = c.then
	}
	// What was asked is not needed any more, and there is much of it in long runs.
	g.room.acts = g.room.acts[:0]
}

// asksForNone: what is refused, or changes nothing, is answered so without a spare page, and in a view.
func (g *garden) asksForNone(c change) {
	g.t.Helper()
	s := g.room.copied()
	s.left = 0
	g.try(", in a full room", s, c)
	same(g.t, c.what+": how often spare pages were asked for", len(s.asked("spare")), 0)
	v := g.room.settled()
	v.isView = true
	g.try(", in a view", v, c)
	v.justLooked(g.t, c.what, 0)
}

func (g *garden) justEnough(c change, s *shelf) {
	g.t.Helper()
	few, view := s.copied(), s.copied()
	s.left = c.ask
	g.try(", in a room with just enough pages", s, c)
	full := c
	full.answer, full.e = 0, api.ErrFull
	few.left = c.ask - 1
	g.try(", in a room with one page too few", few, full)
	sameList(g.t, g.what+": "+c.what+": spare pages asked for", few.asked("spare"), []int{c.ask})
	view.isView = true
	g.try(", in a view", view, full)
}

func (g *garden) make(names ...string) {
	g.t.Helper()
	for _, name := range names {
		g.does(g.makes(name))
	}
}

func (g *garden) drop(name string) { g.t.Helper(); g.does(g.drops(name)) }

func (g *garden) put(name, key, value string) { g.t.Helper(); g.does(g.puts(name, key, value)) }

func (g *garden) del(name, key string) { g.t.Helper(); g.does(g.deletes(name, key)) }

func (g *garden) load(name string, l ...pair) { g.t.Helper(); g.does(g.loads(name, l...)) }

// some is all of a list, or of a long one some from all over it, the first and the last one among them.
func some[T any](l []T) []T {
	if len(l) <= 40 {
		return l
	}
	var out []T
	for i := range 40 {
		out = append(out, l[i*(len(l)-1)/39])
	}
	return out
}

// nearKeys are keys of these pairs, what stands right beside them, what begins them, and keys far off.
func nearKeys(l []pair) []string {
	out := []string{"", "\x00", "\xff", strings.Repeat("\xff", 300), strings.Repeat("\x00", 300), long(70000, 'k')}
	for _, p := range some(l) {
		k := p.key
		out = append(out, k, k+"\x00", k[:len(k)-1], k+strings.Repeat("x", 300))
		if last := k[len(k)-1]; last > 0 {
			out = append(out, k[:len(k)-1]+string([]byte{last - 1})+"\xff")
		}
	}
	return out
}

// nearPlaces are places of n pairs, and what is none.
func nearPlaces(n int) []int {
	l := []int{math.MinInt, math.MinInt + 1, -1 << 32, -2, -1, n, n + 1, math.MaxInt, math.MaxInt - 1, 1 << 32, 1 << 30}
	var all []int
	for i := range n {
		all = append(all, i)
	}
	return append(l, some(all)...)
}

// within is the pairs from lo on, ahead of hi (if it has a byte), falling if reverse.
func within(l []pair, lo, hi string, reverse bool) []pair {
	var out []pair
	for _, p := range l {
		if p.key >= lo && (hi == "" || p.key < hi) {
			out = append(out, p)
		}
	}
	if reverse {
		slices.Reverse(out)
	}
	return out
}

// looks holds all looks at the grove, through a room that allows no more, against the maps.
func (g *garden) looks() {
	g.t.Helper()
	root, count := g.g.Root()
	s := g.room.settled()
	s.isView = true
	at := grove.Open(s, root, count)
	r, n := at.Root()
	same(g.t, g.what+": Root", r, root)
	same(g.t, g.what+": Root", n, len(g.want))
	names, e := at.Names()
	same(g.t, g.what+": Names", e, api.OK)
	sameList(g.t, g.what+": Names", names, g.want.names())
	for _, name := range names {
		g.looksAt(at, name)
	}
	for _, name := range []string{"no-such-tree", "", "A", "\x00", "\xff", strings.Repeat("a", 65), long(70000, 'a')} {
		g.looksAtNone(at, name)
	}
	s.justLooked(g.t, g.what, 0)
	if g.t.Failed() {
		g.t.FailNow()
	}
}

func (g *garden) looksAt(at *grove.Grove, name string) {
	g.t.Helper()
	what, l := g.what+": "+name, g.want.rising(name)
	root, n, e := at.Tree(name)
	same(g.t, what+": Tree", e, api.OK)
	same(g.t, what+": Tree", n, len(l))
	cell := slices.IndexFunc(g.is.catalog.cells, func(c api.Cell) bool { return string(c.Key) == name })
	same(g.t, what+": Tree", root, g.is.catalog.cells[cell].Page)
	n, e = at.Len(name)
	same(g.t, what+": Len", e, api.OK)
	same(g.t, what+": Len", n, len(l))
	for _, key := range nearKeys(l) {
		v, is, e := at.Get(name, []byte(key))
		want, was := g.want[name][key]
		same(g.t, fmt.Sprintf("%s: Get(%.20q)", what, key), e, api.OK)
		same(g.t, fmt.Sprintf("%s: Get(%.20q)", what, key), is, was)
		sameText(g.t, fmt.Sprintf("%s: Get(%.20q)", what, key), string(v), want)
		n, e := at.Rank(name, []byte(key))
		same(g.t, fmt.Sprintf("%s: Rank(%.20q)", what, key), e, api.OK)
		same(g.t, fmt.Sprintf("%s: Rank(%.20q)", what, key), n, len(within(l, "", key, false))*min(1, len(key)))
	}
	for _, i := range nearPlaces(len(l)) {
		p, is, e := at.At(name, i)
		want := pair{}
		if i >= 0 && i < len(l) {
			want = l[i]
		}
		same(g.t, fmt.Sprintf("%s: At(%d)", what, i), e, api.OK)
		same(g.t, fmt.Sprintf("%s: At(%d)", what, i), is, i >= 0 && i < len(l))
		samePairs(g.t, fmt.Sprintf("%s: At(%d)", what, i), []pair{asPair(p)}, []pair{want})
	}
	for _, reverse := range []bool{false, true} {
		told, e := scanned(at, name, "", "", reverse, len(l)+1)
		same(g.t, what+": Scan", e, api.OK)
		samePairs(g.t, what+": Scan", told, within(l, "", "", reverse))
	}
}

// looksAtNone: of a name that no tree has.
func (g *garden) looksAtNone(at *grove.Grove, name string) {
	g.t.Helper()
	what := fmt.Sprintf("%s: %.20q", g.what, name)
	root, n, e := at.Tree(name)
	same(g.t, what+": Tree", e, api.ErrNoTree)
	same(g.t, what+": Tree", root, 0)
	same(g.t, what+": Tree", n, 0)
	n, e = at.Len(name)
	same(g.t, what+": Len", e, api.ErrNoTree)
	same(g.t, what+": Len", n, 0)
	for _, key := range []string{"", "a", "\xff", long(70000, 'k')} {
		v, is, e := at.Get(name, []byte(key))
		same(g.t, what+": Get", e, api.ErrNoTree)
		same(g.t, what+": Get", is, false)
		same(g.t, what+": Get", len(v), 0)
		n, e := at.Rank(name, []byte(key))
		same(g.t, what+": Rank", e, api.ErrNoTree)
		same(g.t, what+": Rank", n, 0)
	}
	for _, i := range nearPlaces(0) {
		p, is, e := at.At(name, i)
		same(g.t, what+": At", e, api.ErrNoTree)
		same(g.t, what+": At", is, false)
		same(g.t, what+": At", asPair(p), pair{})
	}
	for _, x := range [][2]string{{"", ""}, {"a", "b"}, {"b", "a"}, {"a", "a"}} {
		for _, reverse := range []bool{false, true} {
			count := 0
			for p, e := range at.Scan(name, []byte(x[0]), []byte(x[1]), reverse) {
				count++
				same(g.t, what+": Scan", e, api.ErrNoTree)
				same(g.t, what+": Scan", asPair(p), pair{})
			}
			same(g.t, what+": Scan: how often something was told", count, 1)
		}
	}
}
