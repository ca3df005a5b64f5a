package tree_test

import (
	"bytes"
	"fmt"
	"maps"
	"math"
	"math/rand"
	"slices"
	"strings"
	"testing"

	"espalier/api"
	"espalier/node"
	"espalier/tree"
)

func engines() []int { return []int{api.Plain, api.Packed} }

// chance is the same row of numbers in every run.
func chance() *rand.Rand { return rand.New(rand.NewSource(12)) }

func value(key, v string) api.Cell {
	return api.Cell{Key: []byte(key), Kind: api.CellValue, Value: []byte(v)}
}

func spill(key string, page, count int) api.Cell {
	return api.Cell{Key: []byte(key), Kind: api.CellSpill, Page: page, Count: count}
}

func named(key string, page, count int) api.Cell {
	return api.Cell{Key: []byte(key), Kind: api.CellTree, Page: page, Count: count}
}

func lead(key string, page, count int) api.Cell {
	return api.Cell{Key: []byte(key), Kind: api.CellChild, Page: page, Count: count}
}

func row(l ...api.Cell) []api.Cell { return l }

// values are cells with these keys, each with its key as the value, cut off at 9 bytes.
func values(keys ...string) []api.Cell {
	var l []api.Cell
	for _, k := range keys {
		l = append(l, value(k, k[:min(len(k), 9)]))
	}
	return l
}

// long is a text of n bytes.
func long(n int) string { return strings.Repeat("x", n) }

func same[T comparable](t *testing.T, what string, got, want T) {
	if got != want {
		t.Helper()
		t.Errorf("%s: %v, want %v", what, got, want)
	}
}

func sameList(t *testing.T, what string, got, want []int) {
	if !slices.Equal(got, want) {
		t.Helper()
		t.Errorf("%s: %v, want %v", what, got, want)
	}
}

func alike(a, b api.Cell) bool {
	return a.Kind == b.Kind && a.Page == b.Page && a.Count == b.Count && bytes.Equal(a.Key, b.Key) && bytes.Equal(a.Value, b.Value)
}

func sameCell(t *testing.T, what string, got, want api.Cell) {
	if !alike(got, want) {
		t.Helper()
		t.Errorf("%s: %+v, want %+v", what, got, want)
	}
}

func sameCells(t *testing.T, what string, got, want []api.Cell) {
	t.Helper()
	if len(got) != len(want) {
		t.Errorf("%s: %d cells, want %d", what, len(got), len(want))
		return
	}
	for i := range got {
		sameCell(t, fmt.Sprintf("%s: cell %d", what, i), got[i], want[i])
	}
}

// An error that no other part of these tests tells.
const ofTheRoom = api.ErrViews

// act is something that a room was asked.
type act struct {
	what string
	page int
}

// shelf is a room of which a test sees and sets all. It hands out its own memory, and keeps what it is given, so that whoever shares it is seen.
type shelf struct {
	engine, size, pages int
	held                map[int][]byte
	fresh               map[int]bool
	waiting             map[int]bool // given back, and not to be taken again: others may look at them
	pick                func(s *shelf) int
	spare               int // how many pages Spare says that there are; below 0: as many as there are
	acts                []act
	known               map[*byte]decoded // what load has read before
	fail                int               // the number of the act that is refused, from 0 on; below 0: none
}

func newShelf(engine, size, pages int) *shelf {
	return &shelf{
		engine: engine, size: size, pages: pages, held: map[int][]byte{}, fresh: map[int]bool{}, waiting: map[int]bool{},
		known: map[*byte]decoded{}, pick: leastPage, spare: -1, fail: -1,
	}
}

func (s *shelf) isFree(n int) bool {
	_, held := s.held[n]
	return !held && !s.waiting[n] && n >= 2 && n < s.pages
}

// leastPage takes pages as benches and the pager do.
func leastPage(s *shelf) int {
	for n := 2; n < s.pages; n++ {
		if s.isFree(n) {
			return n
		}
	}
	return 0
}

// anyPage takes pages of short and long numbers, in no order.
func anyPage(r *rand.Rand) func(s *shelf) int {
	return func(s *shelf) int {
		for {
			n := 2 + r.Intn([]int{100, 126, 300, 16382, 20000, s.pages}[r.Intn(6)])
			if s.isFree(n) {
				return n
			}
		}
	}
}

// risingPage takes the pages from n on, one behind the other.
func risingPage(n int) func(s *shelf) int {
	return func(s *shelf) int {
		for !s.isFree(n) {
			n++
		}
		return n
	}
}

func (s *shelf) refuses(what string, page int) bool {
	s.acts = append(s.acts, act{what, page})
	return s.fail == len(s.acts)-1
}

func (s *shelf) Engine() int { return s.engine }

func (s *shelf) Size() int { return s.size }

func (s *shelf) Read(n int) ([]byte, api.Errno) {
	if s.refuses("read", n) {
		return nil, ofTheRoom
	}
	b, is := s.held[n]
	if !is {
		return nil, api.ErrPage
	}
	return b, api.OK
}

func (s *shelf) Alloc() (int, api.Errno) {
	n := s.pick(s)
	if s.refuses("alloc", n) {
		return 0, ofTheRoom
	}
	if n == 0 {
		return 0, api.ErrFull
	}
	s.held[n], s.fresh[n] = make([]byte, s.size), true
	return n, api.OK
}

func (s *shelf) Write(n int, b []byte) api.Errno {
	if s.refuses("write", n) {
		return ofTheRoom
	}
	switch {
	case s.held[n] == nil:
		return api.ErrPage
	case !s.fresh[n]:
		return api.ErrFresh
	case len(b) != s.size:
		return api.ErrSize
	}
	s.held[n] = b
	return api.OK
}

func (s *shelf) Free(n int) api.Errno {
	if s.refuses("free", n) {
		return ofTheRoom
	}
	if _, is := s.held[n]; !is {
		return api.ErrPage
	}
	if !s.fresh[n] {
		s.waiting[n] = true
	}
	delete(s.held, n)
	delete(s.fresh, n)
	return api.OK
}

func (s *shelf) Fresh(n int) bool { return s.fresh[n] }

func (s *shelf) Spare(n int) bool {
	s.acts = append(s.acts, act{"spare", n})
	if s.spare >= 0 {
		return n <= s.spare
	}
	return n <= s.pages-2-len(s.held)-len(s.waiting)
}

// settle is a commit: no page is fresh any more, and none waits.
func (s *shelf) settle() {
	clear(s.fresh)
	clear(s.waiting)
}

// copied is another shelf with the same pages in memory of their own, all of them fresh, or none.
func (s *shelf) copied(fresh bool) *shelf {
	c := newShelf(s.engine, s.size, s.pages)
	for n, b := range s.held {
		c.held[n], c.fresh[n] = bytes.Clone(b), fresh
	}
	return c
}

// asked tells the pages of which that was asked, in order, from the act from on.
func (s *shelf) asked(what string, from int) []int {
	var l []int
	for _, a := range s.acts[from:] {
		if a.what == what {
			l = append(l, a.page)
		}
	}
	return l
}

// lay puts a page of these cells there, not fresh.
func (s *shelf) lay(t *testing.T, page, kind int, cells ...api.Cell) {
	t.Helper()
	b, e := node.Encode(s.engine, kind, cells, s.size)
	if e != api.OK {
		t.Fatalf("no page of %d cells: %d", len(cells), e)
	}
	s.held[page] = b
}

func (s *shelf) leaf(t *testing.T, page int, keys ...string) {
	t.Helper()
	s.lay(t, page, api.PageLeaf, values(keys...)...)
}

func (s *shelf) branch(t *testing.T, page int, leads ...api.Cell) {
	t.Helper()
	s.lay(t, page, api.PageBranch, leads...)
}

// decoded is what node.Decode has made of a page.
type decoded struct {
	engine, kind int
	cells        []api.Cell
	e            api.Errno
}

// decode is node.Decode; a page that has stayed where it is is decoded once, for looks are many and changes few.
func (s *shelf) decode(b []byte) decoded {
	if len(b) != s.size {
		return decoded{e: api.ErrCorrupt}
	}
	d, is := s.known[&b[0]]
	if !is {
		d.engine, d.kind, d.cells, d.e = node.Decode(b)
		s.known[&b[0]] = d
	}
	return d
}

// load reads a page as the chapter says.
func (s *shelf) load(n int) (int, []api.Cell, api.Errno) {
	b, is := s.held[n]
	if !is {
		return 0, nil, api.ErrPage
	}
	d := s.decode(b)
	if d.e != api.OK || d.engine != s.engine || d.kind == api.PageBranch && len(d.cells) == 0 {
		return 0, nil, api.ErrTree
	}
	return d.kind, slices.Clone(d.cells), api.OK
}

// grown is what a good tree has.
type grown struct {
	cells  []api.Cell
	pages  []int // rising
	levels int
}

// looker holds the pages that are reached from a root against I1 to I5.
type looker struct {
	s     *shelf
	g     grown
	fault string
}

// good tells what the tree has, and what is wrong with it.
func (s *shelf) good(root int) (grown, string) {
	l := &looker{s: s}
	if root != 0 {
		l.look(root, 1, "", "", false)
	}
	slices.Sort(l.g.pages)
	if len(slices.Compact(slices.Clone(l.g.pages))) != len(l.g.pages) {
		l.wrong("I5: a page is reached twice")
	}
	if n := len(l.g.cells); n >= 2 && 1<<l.g.levels > n {
		l.wrong("P12.11: %d cells, %d levels", n, l.g.levels)
	}
	return l.g, l.fault
}

func (l *looker) wrong(form string, args ...any) {
	if l.fault == "" {
		l.fault = fmt.Sprintf(form, args...)
	}
}

// look looks at a page, below which all keys stand from lo on, and ahead of hi (if there is one); it tells how many cells there are.
func (l *looker) look(page, depth int, lo, hi string, bounded bool) int {
	kind, cells, e := l.s.load(page)
	l.g.pages = append(l.g.pages, page)
	if e != api.OK || depth > 40 {
		l.wrong("page %d, at depth %d: %d", page, depth, e)
		return 0
	}
	if isRoot := depth == 1; len(cells) < 2 && !(isRoot && kind == api.PageLeaf && len(cells) == 1) {
		l.wrong("I4, I5: page %d has %d cells", page, len(cells))
	}
	for i, c := range cells {
		key := string(c.Key)
		if i > 0 && string(cells[i-1].Key) >= key {
			l.wrong("I2: the keys of page %d do not rise", page)
		}
		if kind == api.PageLeaf && (key < lo || bounded && key >= hi) {
			l.wrong("I2: page %d, cell %d: %q beyond its bounds %q, %q", page, i, key, lo, hi)
		}
		if kind == api.PageBranch {
			l.below(page, depth, cells, i, lo, hi, bounded)
		}
	}
	if kind == api.PageBranch {
		return entries(cells)
	}
	if l.g.levels == 0 {
		l.g.levels = depth
	}
	if depth != l.g.levels {
		l.wrong("I1: leaf %d at depth %d, not %d", page, depth, l.g.levels)
	}
	l.g.cells = append(l.g.cells, cells...)
	return len(cells)
}

// below looks at what a branch's cell leads to.
func (l *looker) below(page, depth int, cells []api.Cell, i int, lo, hi string, bounded bool) {
	c := cells[i]
	if i == 0 && len(c.Key) > 0 {
		l.wrong("I2: the first key of branch %d is %q", page, c.Key)
	}
	if i > 0 {
		// The layer that checks images asks this of the keys in between, too.
		if string(c.Key) <= lo || bounded && string(c.Key) >= hi {
			l.wrong("branch %d, cell %d: %q beyond its bounds %q, %q", page, i, c.Key, lo, hi)
		}
		lo = string(c.Key)
	}
	if i+1 < len(cells) {
		hi, bounded = string(cells[i+1].Key), true
	}
	was := len(l.g.cells)
	l.look(c.Page, depth+1, lo, hi, bounded)
	if n := len(l.g.cells) - was; n != c.Count {
		l.wrong("I3: branch %d, cell %d: %d, not %d", page, i, c.Count, n)
	}
}

func entries(cells []api.Cell) int {
	n := 0
	for _, c := range cells {
		n += c.Count
	}
	return n
}

// went is a way: of each of its pages the cells, and the place of that by which it goes on.
type went struct {
	kinds []int
	cells [][]api.Cell
	at    []int
}

// goDown goes down from a page by the cell that choose says; below 0: no further.
func (s *shelf) goDown(page int, choose func(kind int, cells []api.Cell) int) (went, api.Errno) {
	var w went
	for page != 0 {
		if len(w.at) == 40 {
			return went{}, api.ErrTree
		}
		kind, cells, e := s.load(page)
		if e != api.OK {
			return went{}, e
		}
		at := choose(kind, cells)
		w.kinds, w.cells, w.at = append(w.kinds, kind), append(w.cells, cells), append(w.at, at)
		if kind == api.PageLeaf || at < 0 {
			break
		}
		page = cells[at].Page
	}
	return w, api.OK
}

// wayOf is the way for a key, by the chapter's words.
func (s *shelf) wayOf(root int, key string) (went, api.Errno) {
	return s.goDown(root, func(kind int, cells []api.Cell) int {
		last := 0
		for i, c := range cells {
			if string(c.Key) <= key {
				last = i
			}
		}
		return last
	})
}

func (s *shelf) wantGet(root int, key string) (api.Cell, bool, api.Errno) {
	w, e := s.wayOf(root, key)
	if e == api.OK && root != 0 {
		for _, c := range w.cells[len(w.cells)-1] {
			if string(c.Key) == key {
				return c, true, api.OK
			}
		}
	}
	return api.Cell{}, false, e
}

func (s *shelf) wantRank(root int, key string) (int, api.Errno) {
	w, e := s.wayOf(root, key)
	sum := 0
	for i, cells := range w.cells {
		if w.kinds[i] == api.PageBranch {
			sum += entries(cells[:w.at[i]])
			continue
		}
		for _, c := range cells {
			if string(c.Key) < key {
				sum++
			}
		}
	}
	return sum, e
}

func (s *shelf) wantAt(root, i int) (api.Cell, bool, api.Errno) {
	if i < 0 || root == 0 {
		return api.Cell{}, false, api.OK
	}
	w, e := s.goDown(root, func(kind int, cells []api.Cell) int {
		for at, c := range cells {
			if kind == api.PageBranch && c.Count > i {
				return at
			}
			if kind == api.PageBranch {
				i -= c.Count
			}
		}
		return -1
	})
	if e != api.OK {
		return api.Cell{}, false, e
	}
	last := len(w.kinds) - 1
	if w.kinds[last] == api.PageBranch || i >= len(w.cells[last]) {
		return api.Cell{}, false, api.OK
	}
	return w.cells[last][i], true, api.OK
}

func (s *shelf) wantLen(root int) (int, api.Errno) {
	if root == 0 {
		return 0, api.OK
	}
	kind, cells, e := s.load(root)
	if kind == api.PageBranch {
		return entries(cells), e
	}
	return len(cells), e
}

func (s *shelf) wantPages(root int) ([]int, api.Errno) {
	if root == 0 {
		return nil, api.OK
	}
	reached := map[int]bool{}
	var from func(page, depth int) api.Errno
	from = func(page, depth int) api.Errno {
		if reached[page] || depth > 40 {
			return api.ErrTree
		}
		reached[page] = true
		kind, cells, e := s.load(page)
		for _, c := range cells {
			if e == api.OK && kind == api.PageBranch {
				e = from(c.Page, depth+1)
			}
		}
		return e
	}
	if e := from(root, 1); e != api.OK {
		return nil, e
	}
	return slices.Sorted(maps.Keys(reached)), api.OK
}

// looks holds all looks at a root, good or not, against the chapter's words. It tells how they end.
func looks(t *testing.T, what string, s *shelf, root int, keys []string, places []int) map[api.Errno]int {
	t.Helper()
	ends := map[api.Errno]int{}
	from := len(s.acts)
	for _, key := range keys {
		c, is, e := tree.Get(s, root, []byte(key))
		d, was, f := s.wantGet(root, key)
		same(t, fmt.Sprintf("%s: Get(%q)", what, key), e, f)
		same(t, fmt.Sprintf("%s: Get(%q)", what, key), is, was)
		sameCell(t, fmt.Sprintf("%s: Get(%q)", what, key), c, d)
		ends[e]++
		n, e := tree.Rank(s, root, []byte(key))
		m, f := s.wantRank(root, key)
		same(t, fmt.Sprintf("%s: Rank(%q)", what, key), e, f)
		same(t, fmt.Sprintf("%s: Rank(%q)", what, key), n, m)
	}
	for _, i := range places {
		c, is, e := tree.At(s, root, i)
		d, was, f := s.wantAt(root, i)
		same(t, fmt.Sprintf("%s: At(%d)", what, i), e, f)
		same(t, fmt.Sprintf("%s: At(%d)", what, i), is, was)
		sameCell(t, fmt.Sprintf("%s: At(%d)", what, i), c, d)
		ends[e]++
	}
	n, e := tree.Len(s, root)
	m, f := s.wantLen(root)
	same(t, what+": Len", e, f)
	same(t, what+": Len", n, m)
	n, e = tree.Height(s, root)
	w, f := s.wayOf(root, "")
	same(t, what+": Height", e, f)
	same(t, what+": Height", n, len(w.at))
	l, e := tree.Pages(s, root)
	k, f := s.wantPages(root)
	same(t, what+": Pages", e, f)
	sameList(t, what+": Pages", l, k)
	ends[e]++
	same(t, what+": asks other than reads", len(s.acts)-from, len(s.asked("read", from)))
	return ends
}

// nearKeys are these keys, what stands right beside them, what begins them, and keys far off.
func nearKeys(cells []api.Cell) []string {
	l := []string{"", "\x00", "\xff", strings.Repeat("\xff", 300), strings.Repeat("\x00", 300), long(70000)}
	for _, c := range cells {
		k := string(c.Key)
		l = append(l, k, k+"\x00", k[:len(k)-1], k+long(300))
		if last := k[len(k)-1]; last > 0 {
			l = append(l, k[:len(k)-1]+string([]byte{last - 1})+"\xff")
		}
	}
	return l
}

// nearPlaces are the places of n cells, and what is none.
func nearPlaces(n int) []int {
	l := []int{math.MinInt, math.MinInt + 1, -1 << 32, -2, -1, math.MaxInt, math.MaxInt - 1, 1 << 32, 1 << 30}
	for i := range n + 3 {
		l = append(l, i)
	}
	return l
}

// garden is a tree on a shelf, and beside it the sorted list that it must be.
type garden struct {
	t     *testing.T
	what  string
	room  *shelf
	root  int
	cells []api.Cell
	is    grown
	most  struct{ levels, pages, taken int } // the most that there ever were; taken in one change
	grew  int                                // Deletes behind which there were more pages
}

func planted(t *testing.T, what string, s *shelf) *garden { return &garden{t: t, what: what, room: s} }

func (g *garden) find(key []byte) (int, bool) {
	return slices.BinarySearchFunc(g.cells, key, func(c api.Cell, key []byte) int { return bytes.Compare(c.Key, key) })
}

// put puts a cell that may be, in a room where there are pages enough.
func (g *garden) put(c api.Cell) {
	g.t.Helper()
	from := len(g.room.acts)
	root, old, is, e := tree.Put(g.room, g.root, c)
	at, there := g.find(c.Key)
	var want api.Cell
	if there {
		want, g.cells[at] = g.cells[at], c
	} else {
		g.cells = slices.Insert(g.cells, at, c)
	}
	g.answered(fmt.Sprintf("%s: Put(%q)", g.what, c.Key), root, old, is, e, want, there)
	g.changed(from)
}

// del deletes a key, which is there or not.
func (g *garden) del(key string) {
	g.t.Helper()
	from, before := len(g.room.acts), g.root
	root, old, is, e := tree.Delete(g.room, g.root, []byte(key))
	at, there := g.find([]byte(key))
	var want api.Cell
	if there {
		want = g.cells[at]
		g.cells = slices.Delete(g.cells, at, at+1)
	}
	g.answered(fmt.Sprintf("%s: Delete(%q)", g.what, key), root, old, is, e, want, there)
	if !there {
		same(g.t, g.what+": the root behind a Delete of nothing", root, before)
		same(g.t, g.what+": asks of a Delete of nothing", len(g.room.acts)-from, len(g.room.asked("read", from)))
	}
	pages := len(g.is.pages)
	g.changed(from)
	if len(g.is.pages) > pages {
		g.grew++
	}
}

func (g *garden) answered(what string, root int, old api.Cell, is bool, e api.Errno, want api.Cell, there bool) {
	g.t.Helper()
	same(g.t, what, e, api.OK)
	same(g.t, what+": there before", is, there)
	sameCell(g.t, what, old, want)
	if e != api.OK {
		g.t.FailNow()
	}
	g.root = root
}

// changed holds the tree, and what the room was asked from that act on, against P12.9 and I1 to I5.
func (g *garden) changed(from int) {
	g.t.Helper()
	s, old := g.room, g.is
	now, fault := s.good(g.root)
	if fault != "" {
		g.t.Fatalf("%s: %s", g.what, fault)
	}
	g.is = now
	sameCells(g.t, g.what, now.cells, g.cells)
	taken, written, given := s.asked("alloc", from), s.asked("write", from), s.asked("free", from)
	slices.Sort(taken)
	slices.Sort(given)
	sameList(g.t, g.what+": pages taken", taken, without(now.pages, old.pages))
	sameList(g.t, g.what+": pages given back", given, without(old.pages, now.pages))
	if more := without(written, now.pages); len(more) > 0 {
		g.t.Errorf("%s: pages %v written, which the tree does not have", g.what, more)
	}
	if need := tree.Need(old.levels); len(taken) > need {
		g.t.Errorf("%s: %d pages taken, %d are needed", g.what, len(taken), need)
	}
	for _, n := range s.asked("spare", from) {
		same(g.t, g.what+": pages asked for", n, tree.Need(old.levels))
	}
	g.most.levels = max(g.most.levels, now.levels)
	g.most.pages = max(g.most.pages, len(now.pages))
	g.most.taken = max(g.most.taken, len(taken))
	if g.t.Failed() {
		g.t.FailNow()
	}
	// What was asked is not needed any more, and there is much of it in long runs.
	if s.fail < 0 {
		s.acts = s.acts[:0]
	}
}

// without is the numbers that are not among others.
func without(l, others []int) []int {
	is := map[int]bool{}
	for _, n := range others {
		is[n] = true
	}
	var rest []int
	for _, n := range l {
		if !is[n] {
			rest = append(rest, n)
		}
	}
	return rest
}

// all holds all looks at the tree against the chapter's words and against the list.
func (g *garden) all() {
	g.t.Helper()
	looks(g.t, g.what, g.room, g.root, nearKeys(g.cells), nearPlaces(len(g.cells)))
	n, _ := tree.Len(g.room, g.root)
	same(g.t, g.what+": Len", n, len(g.cells))
	for i, want := range g.cells {
		c, is, _ := tree.Get(g.room, g.root, want.Key)
		same(g.t, g.what+": Get", is, true)
		sameCell(g.t, g.what+": Get", c, want)
		n, _ := tree.Rank(g.room, g.root, want.Key)
		same(g.t, g.what+": Rank", n, i)
		c, is, _ = tree.At(g.room, g.root, i)
		same(g.t, g.what+": At", is, true)
		sameCell(g.t, g.what+": At", c, want)
	}
	l, _ := tree.Pages(g.room, g.root)
	sameList(g.t, g.what+": Pages", l, g.is.pages)
	h, _ := tree.Height(g.room, g.root)
	same(g.t, g.what+": Height", h, g.is.levels)
	g.room.acts = g.room.acts[:0]
}
