package merge_test

import (
	"fmt"
	"iter"
	"runtime"
	"slices"
	"sync"
	"sync/atomic"
	"testing"
	"time"

	"espalier/api"
	"espalier/merge"
)

// side asks Side, and gives up if it does not answer.
func side(t *testing.T, what string, most int, sources ...iter.Seq[api.Pair]) ([]pair, api.Errno) {
	t.Helper()
	type answer struct {
		l []api.Pair
		e api.Errno
	}
	answers := make(chan answer, 1)
	go func() {
		l, e := merge.Side(most, sources...)
		answers <- answer{l, e}
	}()
	select {
	case a := <-answers:
		if a.e != api.OK && len(a.l) > 0 {
			t.Errorf("%s: pairs beside error %d", what, a.e)
		}
		return asPairs(a.l), a.e
	case <-time.After(time.Minute):
		t.Fatalf("%s: no answer", what)
		return nil, 0
	}
}

// cut are the first pairs of a source.
func cut(l []pair, most int) []pair { return l[:min(len(l), most)] }

func rising(l []pair) bool { return merge.Rising(bytesOf(l)) }

// wantSide is what the chapter asks of Side.
func wantSide(most int, sources []*teller) ([]pair, api.Errno) {
	var firsts []*teller
	for _, s := range sources {
		if s == nil || !rising(cut(s.pairs, most)) {
			return nil, api.ErrSource
		}
		firsts = append(firsts, tells(cut(s.pairs, most)...))
	}
	return kinds()[0].want(firsts), api.OK
}

// P18.3 of sources of all kinds, and of each number of pairs.
func TestSide(t *testing.T) {
	c := chance(3)
	all := tables()
	for range 400 {
		all = append(all, drawnSources(c, c.Intn(5), 8))
	}
	for _, sources := range all {
		for _, most := range []int{0, 1, 2, 3, 4, 5, 9, api.MaxLimit} {
			what := fmt.Sprintf("Side(%d) of %s", most, described(sources))
			reset(sources)
			got, e := side(t, what, most, sequences(sources)...)
			want, we := wantSide(most, sources)
			same(t, what, e, we)
			sameList(t, what, got, want)
			for i, s := range sources {
				if s != nil && (s.told > min(most, len(taken(s))+1) || s.begun > 1 || s.begun != s.over) {
					t.Errorf("%s: source %d was begun %d times, is over %d times, and told %d pairs", what, i, s.begun, s.over, s.told)
				}
				if s != nil && we == api.OK && most > 0 && (s.begun != 1 || s.told != min(most, len(s.pairs))) {
					t.Errorf("%s: source %d was begun %d times, and told %d pairs", what, i, s.begun, s.told)
				}
			}
		}
		if t.Failed() {
			return
		}
	}
}

// P18.3, R5: the limits, and which error comes first.
func TestSideRefuses(t *testing.T) {
	many := func(n int) []*teller {
		var l []*teller
		for i := range n {
			l = append(l, tells(pair{fmt.Sprintf("%02d", i), "x"}))
		}
		return l
	}
	withNil := append(many(64), nil)
	odd := tellsText("b1 a2")
	for _, x := range []struct {
		what    string
		most    int
		sources []*teller
		want    api.Errno
	}{
		{"most below 0", -1, many(1), api.ErrArg},
		{"most far below 0", -1 << 62, many(1), api.ErrArg},
		{"most above MaxLimit", api.MaxLimit + 1, many(1), api.ErrArg},
		{"most far above MaxLimit", 1 << 62, nil, api.ErrArg},
		{"most MaxLimit", api.MaxLimit, many(1), api.OK},
		{"most 0", 0, many(1), api.OK},
		{"no source", 9, nil, api.OK},
		{"no source, most 0", 0, nil, api.OK},
		{"64 sources", 1, many(64), api.OK},
		{"65 sources", 1, many(65), api.ErrLong},
		{"65 sources, most 0", 0, many(65), api.ErrLong},
		{"65 sources, most -1", -1, many(65), api.ErrArg},
		{"65 sources, nil among them", 1, withNil, api.ErrLong},
		{"65 sources, nil among them, most -1", -1, withNil, api.ErrArg},
		{"nil, most -1", -1, []*teller{nil}, api.ErrArg},
		{"nil, most too great", api.MaxLimit + 1, []*teller{nil}, api.ErrArg},
		{"nil, most 0", 0, []*teller{nil}, api.ErrSource},
		{"nil among others, most 0", 0, []*teller{tellsText("a1"), nil, tellsText("b2")}, api.ErrSource},
		{"nil, and one that does not rise", 2, []*teller{odd, nil}, api.ErrSource},
		{"one that does not rise, most -1", -1, []*teller{odd}, api.ErrArg},
		{"one that does not rise, most 0", 0, []*teller{odd}, api.OK},
		{"one that does not rise, most 1", 1, []*teller{odd}, api.OK},
		{"one that does not rise, most 2", 2, []*teller{odd}, api.ErrSource},
		{"one that does not rise, the last of 64", 2, append(many(63), odd), api.ErrSource},
		{"one that does not rise, the last of 65", 2, append(many(64), odd), api.ErrLong},
	} {
		reset(x.sources)
		got, e := side(t, x.what, x.most, sequences(x.sources)...)
		same(t, x.what, e, x.want)
		if x.want == api.OK {
			want, _ := wantSide(x.most, x.sources)
			sameList(t, x.what, got, want)
		}
		if x.most <= 0 || x.want == api.ErrArg || x.want == api.ErrLong || slices.Contains(x.sources, nil) {
			eachWasBegun(t, x.what, x.sources, 0)
		}
	}
}

// lively is how many goroutines there are, when those that are ending have ended.
func lively(atMost int) int {
	for range 1000 {
		if runtime.NumGoroutine() <= atMost {
			break
		}
		time.Sleep(time.Millisecond)
	}
	return runtime.NumGoroutine()
}

// endless tells pairs without an end; it counts them, and notes when it is over.
func endless(told, over *atomic.Int64) iter.Seq[api.Pair] {
	return func(yield func(api.Pair) bool) {
		defer over.Add(1)
		for n := 0; ; n++ {
			told.Add(1)
			if !yield(api.Pair{Key: fmt.Appendf(nil, "%012d", n)}) {
				return
			}
		}
	}
}

// P18.3: all goroutines have ended when it answers, also where a source has more to tell, and where it answers an error.
func TestSideLeavesNobodyBehind(t *testing.T) {
	before := runtime.NumGoroutine()
	for _, x := range []struct {
		most int
		odd  iter.Seq[api.Pair]
		want api.Errno
	}{
		{1, tellsText("b1 a2").each, api.OK},
		{7, tellsText("b1 c2").each, api.OK},
		{1000, tellsText("b1 a2").each, api.ErrSource},
		{1000, nil, api.ErrSource},
	} {
		var told, over atomic.Int64
		sources := []iter.Seq[api.Pair]{endless(&told, &over), endless(&told, &over), endless(&told, &over), x.odd}
		_, e := side(t, "Side", x.most, sources...)
		same(t, "Side", e, x.want)
		if x.odd != nil {
			same(t, "sources that are over", over.Load(), 3)
		}
		if told.Load() > int64(3*x.most) {
			t.Errorf("three sources have told %d pairs, %d each at most", told.Load(), x.most)
		}
		if x.want == api.OK {
			same(t, "pairs in all", told.Load(), int64(3*x.most))
		}
		if n := lively(before); n > before {
			t.Errorf("%d goroutines, %d before", n, before)
		}
	}
}

// P18.3: where one source does not rise the others are not read on: they could tell without an end.
func TestSideIsOverWhereOneSourceDoesNotRise(t *testing.T) {
	before := runtime.NumGoroutine()
	for i := range 4 {
		var told, over atomic.Int64
		sources := []iter.Seq[api.Pair]{endless(&told, &over), endless(&told, &over), endless(&told, &over)}
		sources = slices.Insert(sources, i, tellsText("x1 x2").each)
		_, e := side(t, "Side beside sources without an end", api.MaxLimit, sources...)
		same(t, "Side", e, api.ErrSource)
		same(t, "sources that are over", over.Load(), 3)
	}
	if n := lively(before); n > before {
		t.Errorf("%d goroutines, %d before", n, before)
	}
}

// P18.3: the sources are read side by side: each goes on only when all others have come as far.
func TestSourcesThatWaitForOneAnother(t *testing.T) {
	const fans, pairs = 8, 40
	var mu sync.Mutex
	turn := sync.NewCond(&mu)
	var come [fans]int
	waits := func(i int) iter.Seq[api.Pair] {
		return func(yield func(api.Pair) bool) {
			for n := range pairs {
				mu.Lock()
				come[i] = n + 1
				turn.Broadcast()
				for slices.Min(come[:]) < n+1 {
					turn.Wait()
				}
				mu.Unlock()
				if !yield(api.Pair{Key: fmt.Appendf(nil, "%03d", n), Value: []byte{byte(i)}}) {
					return
				}
			}
		}
	}
	var sources []iter.Seq[api.Pair]
	for i := range fans {
		sources = append(sources, waits(i))
	}
	l, e := side(t, "sources that wait for one another", pairs, sources...)
	same(t, "Side", e, api.OK)
	same(t, "pairs", len(l), pairs)
	for i, p := range l {
		same(t, "a pair", p, pair{fmt.Sprintf("%03d", i), "\x00"})
	}
}

// R1: sources of which one is begun only when another one is over are read, too.
func TestSourcesWithALock(t *testing.T) {
	var mu sync.Mutex
	locked := func(s *teller) iter.Seq[api.Pair] {
		return func(yield func(api.Pair) bool) {
			mu.Lock()
			defer mu.Unlock()
			s.each(yield)
		}
	}
	for range 50 {
		got, e := side(t, "sources with a lock", 3, locked(tellsText("a1 d2 e3 f4")), locked(tellsText("b5 d6")), locked(tellsText("c7 d8 g9")))
		same(t, "Side", e, api.OK)
		sameList(t, "Side", got, of("a1 b5 c7 d2 e3 g9"))
	}
}

// P18.3, R6: it answers the same however the goroutines run.
func TestSideHangsOnNoTurn(t *testing.T) {
	defer runtime.GOMAXPROCS(runtime.GOMAXPROCS(0))
	c := chance(9)
	for _, procs := range []int{1, 2, 8} {
		runtime.GOMAXPROCS(procs)
		for range 60 {
			sources := drawnSources(c, 1+c.Intn(8), 10)
			if c.Intn(2) == 0 {
				for i, s := range sources {
					if s == nil || !rising(s.pairs) {
						sources[i] = tells(taken(s)...)
					}
				}
			}
			most := c.Intn(9)
			want, we := wantSide(most, sources)
			for range 5 {
				var l []iter.Seq[api.Pair]
				for _, s := range sources {
					l = append(l, dawdling(s, c.Int63()))
				}
				got, e := side(t, "Side", most, l...)
				same(t, "Side of "+described(sources), e, we)
				sameList(t, "Side of "+described(sources), got, want)
			}
		}
	}
}

// dawdling is a source that lets others go first, now and then.
func dawdling(s *teller, seed int64) iter.Seq[api.Pair] {
	if s == nil {
		return nil
	}
	return func(yield func(api.Pair) bool) {
		c := chance(seed)
		for _, p := range bytesOf(s.pairs) {
			for range c.Intn(4) {
				runtime.Gosched()
			}
			if !yield(p) {
				return
			}
		}
	}
}

// P18.3: each source is read in a goroutine of its own, which is not the asker's.
func TestSideReadsInGoroutinesOfItsOwn(t *testing.T) {
	var ids sync.Map
	named := func(s *teller) iter.Seq[api.Pair] {
		return func(yield func(api.Pair) bool) {
			_, twice := ids.LoadOrStore(goroutine(), s)
			same(t, "a goroutine that reads two sources", twice, false)
			s.each(func(p api.Pair) bool {
				asks, _ := ids.Load(goroutine())
				same(t, "the source that a goroutine asks", asks, any(s))
				return yield(p)
			})
		}
	}
	ids.Store(goroutine(), nil)
	_, e := merge.Side(5, named(tellsText("a1 b2")), named(tellsText("a3")), named(tells()))
	same(t, "Side", e, api.OK)
}

// goroutine is the number of the one that asks.
func goroutine() string {
	b := make([]byte, 64)
	b = b[:runtime.Stack(b, false)]
	return string(b[:slices.Index(b, '[')])
}

// R1: a source that panics is refused, not handed on to nobody.
func TestSideOfASourceThatPanics(t *testing.T) {
	broken := func(yield func(api.Pair) bool) {
		yield(api.Pair{Key: []byte("a")})
		panic("broken")
	}
	a := tellsText("a1 b2")
	_, e := side(t, "a source that panics", 9, a.each, broken)
	same(t, "Side", e, api.ErrSource)
	same(t, "ranges over the other one that are not over", a.begun-a.over, 0)
}
