package store_test

import (
	"fmt"
	"strings"
	"testing"

	"espalier/api"
)

// P17.4, P17.5: each change is refused with ErrNoTxn, where no transaction is open, ahead of all else.
func TestChangesWithoutATransaction(t *testing.T) {
	for _, engine := range engines() {
		r := lived(t, engine, 512)
		for range 2 {
			refusesAll(t, "without a transaction", inTxn(), r.s, nil, api.ErrNoTxn)
			for _, name := range []string{"", "a", "Bad", "none"} {
				for _, key := range []string{"", "k", strings.Repeat("k", 65)} {
					same(t, "Make", r.s.Make(name), api.ErrNoTxn)
					same(t, "Drop", r.s.Drop(name), api.ErrNoTxn)
					_, e := r.s.Put(name, []byte(key), make([]byte, 65537))
					same(t, "Put", e, api.ErrNoTxn)
					_, e = r.s.Delete(name, []byte(key))
					same(t, "Delete", e, api.ErrNoTxn)
					_, e = r.s.Load(name, raw(pair{"b", ""}, pair{key, ""}))
					same(t, "Load", e, api.ErrNoTxn)
				}
			}
			r.looks()
			r.begin()
			r.put("a", "x", "1")
			r.rollback()
		}
		r.whole()
	}
}

// P17.4: names, trees that are there, trees that are not.
func TestMakeAndDrop(t *testing.T) {
	names := []string{
		"a", "0", "-", "_", ".", "/", "a/b/c.d-e_f", strings.Repeat("n", 64), "", "A", "a b", "a\x00", "ä", strings.Repeat("n", 65),
		strings.Repeat("N", 300), "a*", "z:", "{", "`", "t/p", "i/p/city", "t-indexes",
	}
	for _, engine := range engines() {
		for _, size := range []int{512, 65536} {
			r := newRig(t, engine, size, 300)
			r.begin()
			for _, name := range names {
				r.drop(name)
				r.make(name)
				r.make(name)
			}
			r.looks()
			r.settle()
			r.begin()
			for i, name := range names {
				if isName(name) {
					r.put(name, "k", long(100*i, 'k'))
				}
			}
			for i, name := range names {
				if i%2 == 0 {
					r.drop(name)
					r.drop(name)
				}
			}
			r.looks()
			r.settle()
			r.begin()
			for _, name := range names {
				r.drop(name)
			}
			r.looks()
			r.settle()
			same(t, "trees", len(r.committed), 0)
			same(t, "pages in use", r.used(), 0)
		}
	}
}

// P17.4: MaxTrees trees, and one more; which error comes first.
func TestMostTrees(t *testing.T) {
	for _, engine := range engines() {
		r := newRig(t, engine, 512, 600)
		r.begin()
		for i := range api.MaxTrees {
			r.make(fmt.Sprintf("tree-%03d%s", i, strings.Repeat("x", i%50)))
		}
		r.looks()
		for range 2 {
			same(t, "one more", r.s.Make("more"), api.ErrTrees)
			same(t, "no name", r.s.Make("More"), api.ErrName)
			same(t, "one that is there", r.s.Make("tree-000"), api.ErrThere)
			r.settle()
			r.looks()
			r.begin()
		}
		// ErrTrees comes ahead of ErrFull: a view has commits of nothing take all pages that there are.
		v, e := r.s.View()
		must(t, "View", e)
		r.put("tree-000", "k", "1") // so that there is something to list
		r.tight = true
		for r.refusals == 0 {
			r.commit()
			if r.working == nil {
				r.begin()
			}
		}
		same(t, "Drop, where no page is left", r.s.Drop("tree-000"), api.ErrFull)
		same(t, "one more, where no page is left", r.s.Make("more"), api.ErrTrees)
		r.rollback()
		v.Close()
		r.tight = false
		r.begin()
		r.drop("tree-000")
		r.make("more")
		r.make("still more")
		same(t, "one more", r.s.Make("still-more"), api.ErrTrees)
		r.settle()
		r.looks()
	}
}

// full is a store with an open transaction, on a device that has no page for any change.
func full(t *testing.T, engine, pages int) *rig {
	t.Helper()
	r := newRig(t, engine, 512, pages)
	r.begin()
	r.make("a")
	r.make("b")
	r.tight = true
	for i := 0; r.refusals == 0; i++ {
		r.put("a", fmt.Sprintf("k%04d", i), long(90, byte(i)))
		if i == 10 {
			r.commit()
			r.begin()
		}
	}
	// A Delete, or a Make, may ask for fewer pages than a Put.
	for i := 0; r.refusals == 1; i++ {
		r.make(fmt.Sprint("t", i))
	}
	for i := 0; r.refusals == 2; i++ {
		r.delete("a", fmt.Sprintf("k%04d", i))
	}
	return r
}

// P17.4, P17.5: where no page is left, ErrFull comes behind all other errors, and nothing has changed.
func TestWhichErrorComesFirst(t *testing.T) {
	for _, engine := range engines() {
		for _, pages := range []int{40, 90} {
			r := full(t, engine, pages)
			key, tooLong := []byte("k"), make([]byte, 65)
			put := func(name string, key, value []byte) api.Errno {
				was, e := r.s.Put(name, key, value)
				same(t, "Put refused", was, false)
				return e
			}
			erase := func(name string, key []byte) api.Errno {
				was, e := r.s.Delete(name, key)
				same(t, "Delete refused, or of none", was, false)
				return e
			}
			load := func(name string, l ...pair) api.Errno {
				n, e := r.s.Load(name, raw(l...))
				same(t, "Load refused", n, 0)
				return e
			}
			there := []byte(r.working.rising("a")[3].key)
			huge := long(65537, 'h')
			for range 2 {
				same(t, "Begin", r.s.Begin(), api.ErrBusy)
				same(t, "Make", r.s.Make("new"), api.ErrFull)
				same(t, "Make of no name", r.s.Make("New"), api.ErrName)
				same(t, "Make of one that is there", r.s.Make("a"), api.ErrThere)
				same(t, "Drop of none", r.s.Drop("new"), api.ErrNoTree)
				same(t, "Drop of no name", r.s.Drop("New"), api.ErrNoTree)
				same(t, "Put", put("a", key, nil), api.ErrFull)
				same(t, "Put of one that is there", put("a", there, nil), api.ErrFull)
				same(t, "Put of no key", put("a", nil, nil), api.ErrSize)
				same(t, "Put of a long key", put("a", tooLong, nil), api.ErrSize)
				same(t, "Put of a long value", put("a", key, []byte(huge)), api.ErrSize)
				same(t, "Put in no tree", put("new", tooLong, []byte(huge)), api.ErrNoTree)
				same(t, "Delete", erase("a", there), api.ErrFull)
				same(t, "Delete of none", erase("a", []byte("none")), api.OK)
				same(t, "Delete of no key", erase("a", nil), api.ErrSize)
				same(t, "Delete of a long key", erase("a", tooLong), api.ErrSize)
				same(t, "Delete in no tree", erase("new", nil), api.ErrNoTree)
				same(t, "Load", load("a", numbered(200, 90)...), api.ErrFull)
				same(t, "Load of a long value", load("b", pair{"a", long(65536, 'a')}), api.ErrFull)
				same(t, "Load of no key", load("a", append(numbered(200, 90), pair{"", ""})...), api.ErrSize)
				same(t, "Load of falling ones", load("a", append(numbered(200, 90), pair{"a", ""})...), api.ErrSorted)
				same(t, "Load in no tree", load("new", pair{"b", ""}, pair{"a", ""}), api.ErrNoTree)
				r.looks()
			}
			r.tight = false
			r.commit()
			r.whole()
			r.looks()
		}
	}
}

// P17.4, P17.5: with an error the working state is what it was; so is what is committed then.
func TestRefusedChangesChangeNothing(t *testing.T) {
	for _, engine := range engines() {
		r := lived(t, engine, 512)
		r.begin()
		r.put("a", "k", long(500, 'k'))
		for range 3 {
			r.make("a")
			r.make("No")
			r.drop("none")
			r.put("none", "k", "1")
			r.put("a", "", "1")
			r.put("a", strings.Repeat("k", 65), "1")
			r.put("a", "k", long(65537, '1'))
			r.delete("none", "k")
			r.delete("a", "")
			r.delete("a", strings.Repeat("k", 65))
			r.delete("a", "not there")
			r.load("none", pair{"a", ""})
			r.load("a", pair{"b", long(900, 'b')}, pair{"a", long(900, 'a')})
			r.load("a", pair{"b", long(900, 'b')}, pair{"c", long(65537, 'c')})
			r.load("b/c", pair{"b", ""}, pair{"b", ""})
			r.load("b/c", pair{"b", ""}, pair{"", ""})
			r.looks()
		}
		r.settle()
		r.looks()
	}
}

// P17.5: keys and values of all lengths that the chapter names, in both engines, in pages of unlike sizes.
func TestLengths(t *testing.T) {
	for _, engine := range engines() {
		for _, size := range []int{512, 1024, 4096, 65536} {
			r := newRig(t, engine, size, max(3000000/size, 200))
			mostKey, mostValue := size/8, size/16*3
			r.begin()
			r.make("a")
			values := []int{0, 1, mostValue - 1, mostValue, mostValue + 1, size - 16, size - 15, size, 65535, 65536, 65537, 70000}
			for i, n := range values {
				for k, bytes := range []int{1, mostKey - 1, mostKey, 0, mostKey + 1, 70000} {
					key := strings.Repeat(string(rune('a'+i)), bytes)
					r.put("a", key, long(min(n, 70000), byte(i+k)))
					r.load("b", pair{key, ""})
				}
			}
			r.looks()
			for _, bytes := range []int{0, 1, mostKey, mostKey + 1} {
				key := strings.Repeat("d", bytes)
				r.delete("a", key)
				r.delete("a", key)
			}
			// Others in the place of long and short ones.
			for i := range values {
				r.put("a", strings.Repeat(string(rune('a'+i)), mostKey), long(values[len(values)-1-i], 'o'))
			}
			r.looks()
			r.settle()
			r.begin()
			r.make("b")
			r.load("b", pair{strings.Repeat("a", mostKey), long(65536, 'x')}, pair{strings.Repeat("b", mostKey), long(mostValue, 'y')}, pair{"c", ""}, pair{"d", long(mostValue+1, 'z')})
			r.load("b", pair{"a", ""}, pair{strings.Repeat("b", mostKey+1), ""})
			r.load("b", pair{"a", ""}, pair{"b", long(65537, 'x')})
			r.load("b", pair{"", ""})
			r.looks()
			r.settle()
		}
	}
}

// P17.5: a Load of none, in the place of pairs that were there, with long values among the old and the new ones; again, and committed between.
func TestLoad(t *testing.T) {
	for _, engine := range engines() {
		r := newRig(t, engine, 512, 1200)
		mixed := func(n, step int) []pair {
			l := numbered(n, 0)
			for i := range l {
				l[i].value = long(i*step%1500, byte(i))
			}
			return l
		}
		r.begin()
		r.make("a")
		r.make("b")
		r.load("a")
		r.put("b", "k", long(700, 'k'))
		for round, l := range [][]pair{numbered(1, 5), mixed(50, 97), nil, numbered(300, 30), mixed(30, 501), numbered(2, 65536), numbered(2, 96), numbered(2, 97), nil} {
			r.load("a", l...)
			r.looks()
			if round%2 == 0 {
				r.load("a", l...)
				r.settle()
				r.begin()
			}
			r.put("a", "more", long(99*round, 'm'))
			r.delete("a", "k00001")
			r.looks()
		}
		r.settle()
		r.looks()
		r.begin()
		r.load("a")
		r.load("b")
		r.settle()
		same(t, "an empty tree has no page but the catalog's", r.used(), 1)
	}
}

// P17.5: of two errors of pairs that of the first pair at fault is told; of one pair ErrSize.
func TestFaultsOfALoad(t *testing.T) {
	for _, engine := range engines() {
		r := newRig(t, engine, 512, 300)
		r.begin()
		r.make("a")
		r.put("a", "old", long(600, 'o'))
		long65, huge := strings.Repeat("l", 65), long(65537, 'h')
		for _, c := range []struct {
			want api.Errno
			l    []pair
		}{
			{api.ErrSize, []pair{{"", ""}}},
			{api.ErrSize, []pair{{"b", ""}, {"", ""}}}, // it does not rise, either
			{api.ErrSize, []pair{{"b", ""}, {"a", huge}}},
			{api.ErrSize, []pair{{"b", ""}, {long65, ""}, {"a", ""}}},
			{api.ErrSorted, []pair{{"b", ""}, {"a", ""}, {"", ""}}},
			{api.ErrSorted, []pair{{"b", ""}, {"b", ""}, {"c", huge}}},
			{api.ErrSorted, []pair{{"b", huge[:65536]}, {"c", ""}, {"bb", huge[:65536]}, {long65, ""}}},
			{api.ErrSize, []pair{{"b", huge}, {"a", ""}}},
		} {
			n, e := r.s.Load("a", raw(c.l...))
			same(t, fmt.Sprintf("Load of %v", c.l), e, c.want)
			same(t, "how many", n, 0)
			r.looks()
		}
		r.settle()
	}
}

// P17.4: the pages of what is dropped, deleted, put and loaded anew are to be had again: round after round on a device that has not room for two rounds.
func TestPagesAreHadAgain(t *testing.T) {
	for _, engine := range engines() {
		r := newRig(t, engine, 512, 520)
		most := 0
		for round := range 12 {
			r.begin()
			r.make("a")
			for i := range 3 {
				r.put("a", fmt.Sprint("k", i), long(15000, byte(round+i)))
			}
			for _, p := range numbered(40, 60) {
				r.put("a", p.key, p.value)
			}
			r.commit()
			r.whole()
			r.begin()
			switch round % 4 {
			case 0:
				r.drop("a")
			case 1:
				for _, p := range r.working.rising("a") {
					r.delete("a", p.key)
				}
			case 2:
				r.load("a")
			case 3:
				for _, p := range r.working.rising("a") {
					r.put("a", p.key, "")
				}
			}
			r.commit()
			r.whole()
			r.looks()
			r.begin()
			r.drop("a")
			r.commit()
			r.whole()
			same(t, "pages in use", r.used(), 0)
			_, m, _ := surveyed(r.p.Image(), 512, engine)
			if round == 3 {
				most = m.High
			} else if round > 3 {
				same(t, "the height stays", m.High <= most, true)
			}
		}
	}
}
