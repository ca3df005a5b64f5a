package multi_test

import (
	"fmt"
	"slices"
	"strings"
	"testing"

	"espalier/api"
	"espalier/multi"
)

// call is a call of a multi: what it is, and what it does; what it answers is told as a text.
type call struct {
	what string
	do   func(m *multi.Multi) (string, api.Errno)
}

func looks() []call {
	return []call{
		{"Has", func(m *multi.Multi) (string, api.Errno) {
			is, e := m.Has([]byte("key-09"), []byte("the value 0037"))
			return fmt.Sprint(is), e
		}},
		{"Has of none", func(m *multi.Multi) (string, api.Errno) {
			is, e := m.Has([]byte("key-09"), []byte("the value 0037x"))
			return fmt.Sprint(is), e
		}},
		{"Add of what is there", func(m *multi.Multi) (string, api.Errno) {
			is, e := m.Add([]byte("key-05"), []byte("the value 0037"))
			return fmt.Sprint(is), e
		}},
		{"Remove of what is not there", func(m *multi.Multi) (string, api.Errno) {
			is, e := m.Remove([]byte("key-05"), []byte("no value"))
			return fmt.Sprint(is), e
		}},
		{"Count", func(m *multi.Multi) (string, api.Errno) {
			n, e := m.Count([]byte("key-10"))
			return fmt.Sprint(n), e
		}},
		{"Values", func(m *multi.Multi) (string, api.Errno) {
			l, e := m.Values([]byte("key-11"))
			return strings.Join(texts(l), " "), e
		}},
		{"Clear of none", func(m *multi.Multi) (string, api.Errno) {
			n, e := m.Clear([]byte("key-00"))
			return fmt.Sprint(n), e
		}},
		{"Keys", func(m *multi.Multi) (string, api.Errno) {
			l, e := m.Keys([]byte("key-02"), []byte("key-07"))
			return strings.Join(texts(l), " "), e
		}},
		{"Keys of all", func(m *multi.Multi) (string, api.Errno) {
			l, e := m.Keys(nil, nil)
			return strings.Join(texts(l), " "), e
		}},
	}
}

func changing() []call {
	return []call{
		{"Add", func(m *multi.Multi) (string, api.Errno) {
			is, e := m.Add([]byte("key-08"), []byte(strings.Repeat("v", 56)))
			return fmt.Sprint(is), e
		}},
		{"Adds by which pages are cut", func(m *multi.Multi) (string, api.Errno) {
			for i := range 9 {
				if is, e := m.Add([]byte("key-08"), []byte(fmt.Sprintf("%050d", i))); e != api.OK {
					return fmt.Sprint(is), e
				}
			}
			return "true", api.OK
		}},
		{"Remove", func(m *multi.Multi) (string, api.Errno) {
			is, e := m.Remove([]byte("key-08"), []byte("the value 0037"))
			return fmt.Sprint(is), e
		}},
		{"Clear of one", func(m *multi.Multi) (string, api.Errno) {
			n, e := m.Clear([]byte("key-01"))
			return fmt.Sprint(n), e
		}},
		{"Clear of many", func(m *multi.Multi) (string, api.Errno) {
			n, e := m.Clear([]byte("key-05"))
			return fmt.Sprint(n), e
		}},
	}
}

// isZero tells whether a call may answer that beside an error.
func isZero(s string) bool { return s == "" || s == "0" || s == "false" }

// P16.2 to P16.5: an error of the room at each of its calls is the answer, beside zero values; nothing is asked behind it.
func TestAnErrorOfTheRoom(t *testing.T) {
	t.Parallel()
	for _, engine := range engines() {
		b := many(t, engine, 512)
		same(t, "levels", b.levels() > 1, true)
		kinds := map[string]int{}
		for _, c := range append(looks(), changing()...) {
			whole := b.copied()
			_, e := c.do(whole.m)
			same(t, c.what, e, api.OK)
			for k, a := range whole.room.acts {
				if a.what == "spare" {
					continue
				}
				kinds[a.what]++
				at := b.copied()
				at.room.fail = k
				answer, e := c.do(at.m)
				what := fmt.Sprintf("%s: act %d, %s %d, refused", c.what, k, a.what, a.n)
				same(t, what, e, ofTheRoom)
				same(t, what+": beside the error is "+answer, isZero(answer), true)
				same(t, what+": what was asked", slices.Equal(at.room.acts, whole.room.acts[:k+1]), true)
			}
			if t.Failed() {
				t.FailNow()
			}
		}
		for _, what := range []string{"read", "alloc", "write", "free"} {
			same(t, what+": is refused now and then", kinds[what] > 0, true)
		}
	}
}

// P16.6: an error of the room at each read of a range: the pairs ahead of it, then a zero pair with it, and no more.
func TestAnErrorOfTheRoomInAll(t *testing.T) {
	for _, engine := range engines() {
		b := many(t, engine, 512)
		want, _ := b.want.row().through("", "")
		told := -1
		for fail := 0; ; fail++ {
			at := b.over(b.room)
			at.room.acts, at.room.fail = nil, fail
			l, e := gone(at.m, 1<<30)
			sameList(t, fmt.Sprint("ahead of read ", fail), l, want[:len(l)])
			same(t, "no fewer pairs the later it is refused", len(l) >= told, true)
			told = len(l)
			if fail >= len(at.room.acts) {
				same(t, "no error", e, api.OK)
				same(t, "all pairs", len(l), len(want))
				break
			}
			same(t, "the error", e, ofTheRoom)
			same(t, "behind the error nothing is read", len(at.room.acts), fail+1)
		}
		b.room.fail = -1
	}
}

// P16.4 to P16.6, R5: of a foreign entry and a page that is lost, the answer is the one that comes first.
func TestForeignEntriesAndLostPages(t *testing.T) {
	for _, engine := range engines() {
		for _, x := range []struct {
			what, at string
			ahead    bool
		}{{"a foreign entry at the beginning", entry("k", "0"), true}, {"one at the end", entry("k", "999"), false}} {
			b := newBed(t, x.what, engine, 512, 400)
			for i := range 60 {
				b.add("k", fmt.Sprintf("%030d", i*10))
			}
			leaf := b.pageOf(fmt.Sprintf("%030d", 300))
			b.put(x.at, "v")
			b.must("Free", b.room.Bench.Free(leaf))
			want := api.ErrPage
			if x.ahead {
				want = api.ErrNone
			}
			l, e := b.m.Values([]byte("k"))
			same(t, x.what+": Values", fmt.Sprint(len(l), e), fmt.Sprint(0, want))
			n, e := b.m.Count([]byte("k"))
			same(t, x.what+": Count", fmt.Sprint(n, e), fmt.Sprint(0, want))
			image := b.room.image()
			n, e = b.m.Clear([]byte("k"))
			same(t, x.what+": Clear", fmt.Sprint(n, e), fmt.Sprint(0, want))
			same(t, x.what+": the pages behind Clear", b.room.image() == image, true)
			l, e = b.m.Keys(nil, nil)
			same(t, x.what+": Keys", fmt.Sprint(len(l), e), fmt.Sprint(0, want))
			all, e := gone(b.m, 1<<30)
			same(t, x.what+": All", e, want)
			same(t, x.what+": All tells pairs ahead of the error", len(all) > 0, !x.ahead)
			is, e := b.m.Has([]byte("k"), []byte(fmt.Sprintf("%030d", 300)))
			same(t, x.what+": Has in the page that is lost", fmt.Sprint(is, e), "false 30")
			is, e = b.m.Add([]byte("k"), []byte(fmt.Sprintf("%030d", 300)))
			same(t, x.what+": Add in the page that is lost", fmt.Sprint(is, e), "false 30")
			is, e = b.m.Remove([]byte("k"), []byte(fmt.Sprintf("%030d", 300)))
			same(t, x.what+": Remove in the page that is lost", fmt.Sprint(is, e), "false 30")
		}
	}
}

// pageOf is the page in which the entry of k and a value stands: the last one that Has reads.
func (b *bed) pageOf(value string) int {
	b.t.Helper()
	b.room.acts = nil
	is, e := b.m.Has([]byte("k"), []byte(value))
	same(b.t, "Has", fmt.Sprint(is, e), "true 0")
	return b.room.acts[len(b.room.acts)-1].n
}

// P16.2, P16.4, R5: a foreign entry whose long value cannot be read: grove's error comes ahead of what the entry is.
func TestAForeignValueThatIsLost(t *testing.T) {
	for _, engine := range engines() {
		b := newBed(t, "a value that is lost", engine, 512, 400)
		b.add("a", "1", "a", "3", "b", "1")
		before := b.room.Taken()
		b.put(entry("a", "2"), strings.Repeat("v", 800))
		for _, page := range b.room.Taken() {
			if slices.Contains(before, page) || b.room.page(page)[0] != api.PageSpill {
				continue
			}
			c := b.copied()
			c.must("Free", c.room.Bench.Free(page))
			is, e := c.m.Has([]byte("a"), []byte("2"))
			same(t, "Has", fmt.Sprint(is, e), "false 30")
			is, e = c.m.Add([]byte("a"), []byte("2"))
			same(t, "Add", fmt.Sprint(is, e), "false 30")
			is, e = c.m.Remove([]byte("a"), []byte("2"))
			same(t, "Remove", fmt.Sprint(is, e), "false 30")
			l, e := c.m.Values([]byte("a"))
			same(t, "Values", fmt.Sprint(len(l), e), "0 30")
			l, e = c.m.Keys(nil, nil)
			same(t, "Keys", fmt.Sprint(len(l), e), "0 30")
			n, e := c.m.Clear([]byte("a"))
			same(t, "Clear", fmt.Sprint(n, e), "0 30")
			all, e := gone(c.m, 1<<30)
			same(t, "All", fmt.Sprint(all, e), "[{a 1}] 30")
			n, e = c.m.Count([]byte("b"))
			same(t, "Count of another key", fmt.Sprint(n, e), "1 0")
		}
	}
}

// R1: whatever becomes of the room's pages, each call ends, without a panic, and answers zero values beside an error.
func TestPagesThatAreSpoilt(t *testing.T) {
	t.Parallel()
	const mostActs = 100000
	for _, engine := range engines() {
		b := many(t, engine, 512)
		pages := b.room.Taken()
		for i, page := range pages {
			for _, with := range [][]byte{nil, make([]byte, 512), b.room.page(pages[0]), b.room.page(pages[(i+1)%len(pages)]), b.room.page(pages[len(pages)-1])} {
				at := b.copied()
				at.room.Lay(page, with)
				for _, c := range append(looks(), changing()...) {
					d := at.copied()
					answer, e := c.do(d.m)
					what := fmt.Sprintf("%s: page %d spoilt: %s", b.what, page, c.what)
					same(t, what+": it ends soon", len(d.room.acts) < mostActs, true)
					same(t, what+": beside the error is "+answer, e == api.OK || isZero(answer), true)
				}
				_, e := gone(at.m, 1<<30)
				same(t, "All tells nothing beside an error, and nothing behind it", e >= 0, true)
			}
			if t.Failed() {
				t.FailNow()
			}
		}
	}
}
