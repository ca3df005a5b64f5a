package multi_test

import (
	"fmt"
	"maps"
	"math/rand"
	"slices"
	"strings"
	"testing"

	"espalier/api"
	"espalier/grove"
	"espalier/multi"
)

func engines() []int { return []int{api.Plain, api.Packed} }

// chance is the same row of numbers in every run.
func chance() *rand.Rand { return rand.New(rand.NewSource(16)) }

func same[T comparable](t *testing.T, what string, got, want T) {
	if got != want {
		t.Helper()
		t.Errorf("%s: %#v, want %#v", what, got, want)
	}
}

// brief is the beginning of a list, for whole ones are too long to print.
func brief[T any](l []T) string {
	if len(l) > 20 {
		return fmt.Sprintf("%.40q and so on, %d in all", any(l[:20]), len(l))
	}
	return fmt.Sprintf("%.40q", any(l))
}

func sameList[T comparable](t *testing.T, what string, got, want []T) {
	if !slices.Equal(got, want) {
		t.Helper()
		t.Errorf("%s: %s, want %s", what, brief(got), brief(want))
	}
}

// pair is a key and a value as texts.
type pair struct{ key, value string }

func asPair(p api.Pair) pair { return pair{string(p.Key), string(p.Value)} }

// byKey sorts pairs by the key, and then by the value.
func byKey(a, b pair) int {
	if c := strings.Compare(a.key, b.key); c != 0 {
		return c
	}
	return strings.Compare(a.value, b.value)
}

// entry is the key of a pair's entry, as the chapters say it.
func entry(key, value string) string {
	return strings.ReplaceAll(key, "\x00", "\x00\xff") + "\x00\x01" + value
}

// pairOf is the pair of an entry's key; false, if it begins with nothing that is written so.
func pairOf(entry string) (pair, bool) {
	key := ""
	for {
		at := strings.IndexByte(entry, 0)
		if at < 0 || at+1 == len(entry) {
			return pair{}, false
		}
		key += entry[:at]
		mark := entry[at+1]
		entry = entry[at+2:]
		switch mark {
		case 1:
			return pair{key, entry}, true
		case 0xff:
			key += "\x00"
		default:
			return pair{}, false
		}
	}
}

func texts(l [][]byte) []string {
	var out []string
	for _, b := range l {
		out = append(out, string(b))
	}
	return out
}

// An error that no other part of these tests tells.
const ofTheRoom = api.ErrViews

// act is something that a room was asked.
type act struct {
	what string
	n    int
}

// room is a bench that notes what it is asked, and refuses what a test says.
type room struct {
	*api.Bench
	pages int
	acts  []act
	fail  int // the number of the act that is refused, from 0 on; below 0: none
	left  int // how many pages it says it has to spare at most
	// How many asks for spare pages it grants that are a grove's, for a whole change: these are greater than those of the trees that are changed then.
	grants int
}

const (
	plenty      = 60000
	askOfAGrove = 19
)

func newRoom(engine, size, pages int) *room {
	return &room{Bench: api.NewBench(engine, size, pages), pages: pages, fail: -1, left: plenty, grants: plenty}
}

func (r *room) refuses(what string, n int) bool {
	r.acts = append(r.acts, act{what, n})
	return r.fail == len(r.acts)-1
}

func (r *room) Read(n int) ([]byte, api.Errno) {
	if r.refuses("read", n) {
		return nil, ofTheRoom
	}
	return r.Bench.Read(n)
}

func (r *room) Alloc() (int, api.Errno) {
	if r.refuses("alloc", 0) {
		return 0, ofTheRoom
	}
	return r.Bench.Alloc()
}

func (r *room) Write(n int, b []byte) api.Errno {
	if r.refuses("write", n) {
		return ofTheRoom
	}
	return r.Bench.Write(n, b)
}

func (r *room) Free(n int) api.Errno {
	if r.refuses("free", n) {
		return ofTheRoom
	}
	return r.Bench.Free(n)
}

func (r *room) Spare(n int) bool {
	r.acts = append(r.acts, act{"spare", n})
	if n >= askOfAGrove {
		r.grants--
	}
	if r.grants < 0 {
		return false
	}
	return n <= r.left && r.Bench.Spare(n)
}

// page is a page's bytes, without an act.
func (r *room) page(n int) []byte {
	b, _ := r.Bench.Read(n)
	return b
}

// copied is another room with the same pages.
func (r *room) copied() *room {
	c := newRoom(r.Engine(), r.Size(), r.pages)
	for _, n := range r.Taken() {
		c.Lay(n, r.page(n))
	}
	return c
}

// image is all pages that there are, as one text.
func (r *room) image() string {
	var b strings.Builder
	for _, n := range r.Taken() {
		fmt.Fprintf(&b, "%d:%s", n, r.page(n))
	}
	return b.String()
}

// justRead holds what the room was asked from that act on against what a look may ask.
func (r *room) justRead(t *testing.T, what string, from int) {
	t.Helper()
	for _, a := range r.acts[from:] {
		if a.what != "read" {
			t.Errorf("%s: the room was asked to %s %d", what, a.what, a.n)
			return
		}
	}
}

// bed is the tree "m" of a grove, beside what its entries should be.
type bed struct {
	t    *testing.T
	what string
	room *room
	g    *grove.Grove
	m    *multi.Multi
	want entries
}

// entries is all that a tree has: keys as they stand there, and values.
type entries map[string]string

func newBed(t *testing.T, what string, engine, size, pages int) *bed {
	t.Helper()
	b := &bed{t: t, what: fmt.Sprintf("%s, engine %d, pages of %d", what, engine, size), room: newRoom(engine, size, pages), want: entries{}}
	b.g = grove.Open(b.room, 0, 0)
	b.must("Make", b.g.Make("m"))
	b.m = multi.Open(b.g, "m")
	return b
}

func (b *bed) must(what string, e api.Errno) {
	if e != api.OK {
		b.t.Helper()
		b.t.Fatalf("%s: %s: %d", b.what, what, e)
	}
}

// add adds pairs, keys and values in turns.
func (b *bed) add(l ...string) {
	b.t.Helper()
	for i := 0; i+1 < len(l); i += 2 {
		_, e := b.m.Add([]byte(l[i]), []byte(l[i+1]))
		b.must("Add", e)
		b.want[entry(l[i], l[i+1])] = ""
	}
}

// put puts an entry into the tree, past the multi.
func (b *bed) put(key, value string) {
	b.t.Helper()
	_, e := b.g.Put("m", []byte(key), []byte(value))
	b.must("Put", e)
	b.want[key] = value
}

// over is a bed with the same pages in another room.
func (b *bed) over(r *room) *bed {
	root, n := b.g.Root()
	c := &bed{t: b.t, what: b.what, room: r, g: grove.Open(r, root, n), want: maps.Clone(b.want)}
	c.m = multi.Open(c.g, "m")
	return c
}

func (b *bed) copied() *bed { return b.over(b.room.copied()) }

// holds holds the tree's entries, gone through past the multi, against what they should be.
func (b *bed) holds(what string) {
	b.t.Helper()
	var got []pair
	for p, e := range b.g.Scan("m", nil, nil, false) {
		same(b.t, what+": Scan", e, api.OK)
		got = append(got, asPair(p))
	}
	sameList(b.t, b.what+": "+what+": entries", got, b.want.row())
}

// tells holds all that the multi tells, of these keys and values, against the chapter's words.
func (b *bed) tells(what string, keys, values []string) {
	b.t.Helper()
	what = b.what + ": " + what
	from, held := len(b.room.acts), b.want.row()
	b.tellsAll(what, held)
	for _, key := range keys {
		b.tellsKey(what, key, held)
		for _, value := range values {
			is, e := b.m.Has([]byte(key), []byte(value))
			wantIs, wantE := held.has(key, value)
			same(b.t, fmt.Sprintf("%s: Has(%.30q, %.30q)", what, key, value), e, wantE)
			same(b.t, fmt.Sprintf("%s: Has(%.30q, %.30q)", what, key, value), is, wantIs)
		}
		for _, hi := range keys {
			l, e := b.m.Keys([]byte(key), []byte(hi))
			want, wantE := held.keys(key, hi)
			same(b.t, fmt.Sprintf("%s: Keys(%.30q, %.30q)", what, key, hi), e, wantE)
			sameList(b.t, fmt.Sprintf("%s: Keys(%.30q, %.30q)", what, key, hi), texts(l), want)
		}
	}
	b.room.justRead(b.t, what, from)
	if b.t.Failed() {
		b.t.FailNow()
	}
}

func (b *bed) tellsAll(what string, held row) {
	b.t.Helper()
	got, e := gone(b.m, 1<<30)
	want, wantE := held.through("", "")
	same(b.t, what+": All", e, wantE)
	sameList(b.t, what+": All", got, want)
}

func (b *bed) tellsKey(what, key string, held row) {
	b.t.Helper()
	l, e := b.m.Values([]byte(key))
	want, wantE := held.values(key)
	same(b.t, fmt.Sprintf("%s: Values(%.30q)", what, key), e, wantE)
	sameList(b.t, fmt.Sprintf("%s: Values(%.30q)", what, key), texts(l), want)
	n, e := b.m.Count([]byte(key))
	same(b.t, fmt.Sprintf("%s: Count(%.30q)", what, key), e, wantE)
	same(b.t, fmt.Sprintf("%s: Count(%.30q)", what, key), n, len(want))
}

// gone is what All tells, up to most pairs, and the error that it tells at last. Beside an error there is nothing, and nothing behind it.
func gone(m *multi.Multi, most int) ([]pair, api.Errno) {
	var l []pair
	end := api.OK
	for p, e := range m.All() {
		if end != api.OK || e != api.OK && asPair(p) != (pair{}) {
			return nil, -1
		}
		if end = e; e == api.OK {
			l = append(l, asPair(p))
		}
		if len(l) == most {
			break
		}
	}
	return l, end
}

// row is a tree's entries, rising.
type row []pair

func (s entries) row() row {
	var l row
	for _, k := range slices.Sorted(maps.Keys(s)) {
		l = append(l, pair{k, s[k]})
	}
	return l
}

// at is where the first entry stands whose key is not ahead of that one, and whether it is that one.
func (l row) at(key string) (int, bool) {
	return slices.BinarySearchFunc(l, key, func(p pair, key string) int { return strings.Compare(p.key, key) })
}

// through is what is told where the entries from lo on, ahead of hi, are gone through: the pairs up to the first foreign one.
func (l row) through(lo, hi string) ([]pair, api.Errno) {
	var out []pair
	from, _ := l.at(lo)
	for _, x := range l[from:] {
		if hi != "" && x.key >= hi {
			break
		}
		p, is := pairOf(x.key)
		if !is || x.value != "" {
			return out, api.ErrNone
		}
		out = append(out, p)
	}
	return out, api.OK
}

func (l row) has(key, value string) (bool, api.Errno) {
	i, is := l.at(entry(key, value))
	if is && l[i].value != "" {
		return false, api.ErrNone
	}
	return is, api.OK
}

func (l row) values(key string) ([]string, api.Errno) {
	lo := entry(key, "")
	pairs, e := l.through(lo, lo[:len(lo)-1]+"\x02")
	if e != api.OK {
		return nil, e
	}
	var out []string
	for _, p := range pairs {
		out = append(out, p.value)
	}
	return out, api.OK
}

func (l row) keys(lo, hi string) ([]string, api.Errno) {
	end := ""
	if hi != "" {
		end = entry(hi, "")
	}
	pairs, e := l.through(entry(lo, ""), end)
	if e != api.OK {
		return nil, e
	}
	var out []string
	for _, p := range pairs {
		out = append(out, p.key)
	}
	return slices.Compact(out), api.OK
}
