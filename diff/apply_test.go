package diff_test

import (
	"fmt"
	"testing"

	"espalier/api"
	"espalier/diff"
)

// applied carries changes out, and holds what is answered against that.
func (r *rig) applied(what string, done int, why api.Errno, l ...api.Change) {
	r.t.Helper()
	n, e := diff.Apply(r.s, l)
	same(r.t, what, fmt.Sprint(n, " ", e), fmt.Sprint(done, " ", why))
}

// P22.3: the errors ahead of any change.
func TestApplyIsRefused(t *testing.T) {
	for _, engine := range engines() {
		r := newRig(t, engine, 512, 200)
		bad := ofPair("a", "k", none, none)
		n, e := diff.Apply(nil, []api.Change{bad})
		same(t, "nil", fmt.Sprint(n, e), fmt.Sprint(0, api.ErrArg))
		r.applied("nothing to do", 0, api.OK)
		must(t, "Rollback", r.s.Rollback())
		r.applied("no transaction", 0, api.ErrNoTxn, bad)
		r.applied("no transaction, nothing to do", 0, api.ErrNoTxn)
		must(t, "Begin", r.s.Begin())
		r.applied("a transaction", 0, api.ErrArg, bad)
		r.p.Crash(api.Fall{Torn: -1})
		r.applied("down", 0, api.ErrDown, bad)
		r.applied("down, nothing to do", 0, api.ErrDown)
		must(t, "Close", r.s.Close())
		r.applied("closed", 0, api.ErrClosed, bad)
		r.applied("closed, nothing to do", 0, api.ErrClosed)
	}
}

// P22.3: which changes may be: each with Was and Is, with an old value and a new one or without, of a tree and of a pair.
func TestMayBe(t *testing.T) {
	for _, engine := range engines() {
		for n := range 32 {
			bit := func(i int) bool { return n>>i&1 == 1 }
			c := api.Change{Tree: "a", Was: bit(0), Is: bit(1)}
			if bit(2) {
				c.Old = []byte("1")
			}
			if bit(3) {
				c.New = []byte("2")
			}
			if bit(4) {
				c.Key = []byte("k")
			}
			may := (c.Was || c.Is) && (c.Was || !bit(2)) && (c.Is || !bit(3))
			if !bit(4) {
				may = may && !(c.Was && c.Is) && !bit(2) && !bit(3)
			}
			// In a store that stands as the change says that it was.
			r := newRig(t, engine, 512, 200)
			if c.Was || bit(4) {
				r.make("a")
			}
			if c.Was && bit(4) {
				r.put("a", "k", string(c.Old))
			}
			if may {
				r.applied(asText(c), 1, api.OK, c)
				switch {
				case !bit(4) && c.Is:
					r.working["a"] = map[string]string{}
				case !bit(4):
					delete(r.working, "a")
				case c.Is:
					r.working["a"]["k"] = string(c.New)
				default:
					delete(r.working["a"], "k")
				}
			} else {
				r.applied(asText(c), 0, api.ErrArg, c)
			}
			r.stands(asText(c))
			// Whether it may be counts ahead of how the store stands.
			if !may {
				newRig(t, engine, 512, 200).applied(asText(c)+", of no tree", 0, api.ErrArg, c)
			}
		}
		// Lists that are empty are none.
		r := newRig(t, engine, 512, 200)
		r.applied("empty lists", 2, api.OK,
			api.Change{Tree: "a", Key: []byte{}, Is: true, Old: []byte{}, New: []byte{}},
			api.Change{Tree: "a", Key: []byte("k"), Is: true, Old: []byte{}, New: []byte{}})
		r.working["a"] = map[string]string{"k": ""}
		r.stands("empty lists")
		r.applied("empty lists, back", 2, api.OK,
			api.Change{Tree: "a", Key: []byte("k"), Was: true, Old: nil, New: []byte{}},
			api.Change{Tree: "a", Key: []byte{}, Was: true, Old: []byte{}, New: []byte{}})
	}
}

// P22.3: changes of trees.
func TestApplyTrees(t *testing.T) {
	for _, engine := range engines() {
		r := newRig(t, engine, 512, 4000).make("a", "b").put("b", "k", "1")
		r.applied("it is there already", 0, api.ErrOther, ofTree("a", false, true))
		r.applied("it is there, with pairs", 0, api.ErrOther, ofTree("b", false, true))
		r.applied("it is not there", 0, api.ErrOther, ofTree("c", true, false))
		r.applied("it has pairs", 0, api.ErrOther, ofTree("b", true, false))
		r.applied("no name", 0, api.ErrName, ofTree("A", false, true))
		r.applied("no name, empty", 0, api.ErrName, ofTree("", false, true))
		r.applied("no name, too long", 0, api.ErrName, ofTree(long(65, 'a'), false, true))
		r.applied("no name, so it is not there", 0, api.ErrOther, ofTree("A", true, false))
		r.stands("refused all")
		r.applied("its pair first", 2, api.OK, ofPair("b", "k", "1", none), ofTree("b", true, false))
		r.drop("a").make("a")
		delete(r.working, "b")
		r.stands("b is gone")
		r.applied("made, and dropped, and made", 3, api.OK, ofTree("b", false, true), ofTree("b", true, false), ofTree("b", false, true))
		r.working["b"] = map[string]string{}
		for i := len(r.working); i < api.MaxTrees; i++ {
			r.make(fmt.Sprint("t", i))
		}
		r.applied("one too many", 0, api.ErrTrees, ofTree("c", false, true))
		r.applied("one goes, one comes", 2, api.OK, ofTree("b", true, false), ofTree("c", false, true))
		r.applied("there already counts first", 0, api.ErrOther, ofTree("c", false, true))
		delete(r.working, "b")
		r.working["c"] = map[string]string{}
		r.stands("at last")
	}
}

// P22.3: changes of pairs.
func TestApplyPairs(t *testing.T) {
	for _, engine := range engines() {
		big := long(700, 'v')
		r := newRig(t, engine, 512, 900).make("a").put("a", "k", "1").put("a", "long", big).put("a", "empty", "")
		r.applied("no tree", 0, api.ErrNoTree, ofPair("b", "k", none, "1"))
		r.applied("no tree, it was", 0, api.ErrNoTree, ofPair("b", "k", "1", none))
		r.applied("no name", 0, api.ErrNoTree, ofPair("B", "k", "1", "2"))
		r.applied("it is there", 0, api.ErrOther, ofPair("a", "k", none, "2"))
		r.applied("it is there, empty", 0, api.ErrOther, ofPair("a", "empty", none, ""))
		r.applied("it is not there", 0, api.ErrOther, ofPair("a", "l", "1", "2"))
		r.applied("it is not there, and was empty", 0, api.ErrOther, ofPair("a", "l", "", "2"))
		r.applied("it is not there, and goes", 0, api.ErrOther, ofPair("a", "l", "", none))
		r.applied("another value", 0, api.ErrOther, ofPair("a", "k", "2", "3"))
		r.applied("a longer value", 0, api.ErrOther, ofPair("a", "k", "11", none))
		r.applied("an empty value", 0, api.ErrOther, ofPair("a", "k", "", none))
		r.applied("not an empty value", 0, api.ErrOther, ofPair("a", "empty", "1", none))
		r.applied("another long value", 0, api.ErrOther, ofPair("a", "long", long(700, 'w'), "1"))
		r.applied("a long value, and one byte", 0, api.ErrOther, ofPair("a", "long", big+"x", "1"))
		r.applied("a long value, but for one byte", 0, api.ErrOther, ofPair("a", "long", big[:699], none))
		r.applied("too long a key", 0, api.ErrSize, ofPair("a", long(65, 'k'), none, "1"))
		r.applied("too long a key was there", 0, api.ErrOther, ofPair("a", long(65, 'k'), "1", "1"))
		r.applied("too long a value", 0, api.ErrSize, ofPair("a", "l", none, long(65537, 'v')))
		r.applied("too long a value in the place of one", 0, api.ErrSize, ofPair("a", "k", "1", long(65537, 'v')))
		r.applied("another value, ahead of too long a one", 0, api.ErrOther, ofPair("a", "k", "2", long(65537, 'v')))
		r.stands("refused all")
		r.applied("all kinds", 7, api.OK,
			ofPair("a", "k", "1", big), ofPair("a", "long", big, "s"), ofPair("a", "empty", "", none), ofPair("a", "new", none, ""),
			ofPair("a", long(64, 'k'), none, long(65536, 'v')), ofPair("a", "new", "", "n"), ofPair("a", "new", "n", "n"))
		r.working["a"] = map[string]string{"k": big, "long": "s", "new": "n", long(64, 'k'): long(65536, 'v')}
		r.stands("done all")
		// What was done ahead of one that is refused stays done, and nothing behind it is done.
		r.applied("the third", 2, api.ErrOther, ofPair("a", "k", big, none), ofPair("a", "x", none, "1"), ofPair("a", "x", none, "2"), ofPair("a", "y", none, "3"))
		delete(r.working["a"], "k")
		r.working["a"]["x"] = "1"
		r.stands("two of four")
		r.commit()
		r.stands("committed")
	}
}

// P22.3: one for which pages are wanting is refused with ErrFull and has changed nothing; those ahead of it are done.
func TestApplyOnAFullDevice(t *testing.T) {
	for _, engine := range engines() {
		full := 0
		for pages := 16; pages < 90; pages += 5 {
			r := newRig(t, engine, 512, pages)
			var l []api.Change
			for i := range 60 {
				name := fmt.Sprint("t", i/20)
				if i%20 == 0 {
					l = append(l, ofTree(name, false, true))
				}
				l = append(l, ofPair(name, fmt.Sprint("k", i), none, long(i*29%400, byte(i))))
			}
			n, e := diff.Apply(r.s, l)
			if e == api.ErrFull {
				full++
			} else {
				same(t, "all was done", fmt.Sprint(n, e), fmt.Sprint(len(l), api.OK))
			}
			for _, c := range l[:n] {
				if len(c.Key) == 0 {
					r.working[c.Tree] = map[string]string{}
				} else {
					r.working[c.Tree][string(c.Key)] = string(c.New)
				}
			}
			r.stands(fmt.Sprint(pages, " pages: ", n, " done"))
		}
		same(t, fmt.Sprint("full ", full), full > 5, true)
	}
}

// P22.3: a Delete and a Drop may be refused with ErrFull, too.
func TestApplyTakesAwayOnAFullDevice(t *testing.T) {
	for _, engine := range engines() {
		r := newRig(t, engine, 512, 100).make("a").put("a", "k", "1").make("b")
		fill := func(do func(i int) api.Errno) {
			e := api.OK
			for i := 0; e == api.OK; i++ {
				e = do(i)
			}
			same(t, "the device is full", e, api.ErrFull)
		}
		fill(func(i int) api.Errno {
			key, value := fmt.Sprint("l", i), long(96, byte(i))
			_, e := r.s.Put("a", []byte(key), []byte(value))
			if e == api.OK {
				r.working["a"][key] = value
			}
			return e
		})
		r.applied("a Delete", 0, api.ErrFull, ofPair("a", "k", "1", none))
		fill(func(i int) api.Errno {
			name := fmt.Sprintf("%064d", i)
			e := r.s.Make(name)
			if e == api.OK {
				r.working[name] = map[string]string{}
			}
			return e
		})
		r.applied("a Drop", 0, api.ErrFull, ofTree("b", true, false))
		r.stands("nothing has changed")
	}
}

// P22.3: a page that can't be read ends it.
func TestApplyMeetsRottenPages(t *testing.T) {
	for _, engine := range engines() {
		r := newRig(t, engine, 512, 200)
		b := r.make("a").put("a", "k", "1").make("b").commit()
		for _, n := range b.used {
			good, _ := r.p.Read(n)
			must(t, "Write", r.p.Write(n, make([]byte, 512)), r.p.Sync())
			r.applied("a pair", 0, api.ErrTree, ofPair("a", "k", "1", "2"))
			got, e := diff.Apply(r.s, []api.Change{ofTree("b", true, false)})
			same(t, "a tree", fmt.Sprint(got, e) == fmt.Sprint(0, api.ErrTree) || fmt.Sprint(got, e) == fmt.Sprint(1, api.OK), true)
			must(t, "Write", r.p.Write(n, good), r.p.Sync(), r.s.Rollback(), r.s.Begin())
		}
		r.working = b.has
		r.stands("mended")
	}
}
