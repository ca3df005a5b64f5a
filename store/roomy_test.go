package store_test

import (
	"fmt"
	"math/rand"
	"slices"
	"strings"
	"testing"

	"espalier/api"
)

// lives are scripts that want pages, each in another way.
func lives() map[string][]step {
	return map[string][]step{
		"nothing":                    {{what: "begin"}, {what: "commit"}},
		"a tree":                     {{what: "begin"}, {what: "make", name: "a"}, {what: "commit"}, {what: "begin"}, {what: "drop", name: "a"}, {what: "commit"}},
		"any":                        closedScript(chance(17), 500),
		"cells as long as may be":    longCells(chance(18)),
		"many trees":                 manyTrees(),
		"long values":                longValues(),
		"loads":                      loads(),
		"long transactions":          longTransactions(chance(19)),
		"one value, again and again": oneValue(),
	}
}

// closedScript is a script at whose end all is committed.
func closedScript(x *rand.Rand, n int) []step {
	return append(script(x, n, 64), step{what: "begin"}, step{what: "commit"})
}

// turn is a Commit, or a Rollback, and a Begin behind it.
func turn(i int) []step {
	if i%4 == 3 {
		return []step{{what: "rollback"}, {what: "begin"}}
	}
	return []step{{what: "commit"}, {what: "begin"}}
}

// longCells has trees whose pages hold as few cells as may be.
func longCells(x *rand.Rand) []step {
	l := []step{{what: "begin"}, {what: "make", name: "a"}}
	key := func(n int) string { return fmt.Sprintf("%04d%s", n*7919%10000, strings.Repeat("k", 60)) }
	for i := range 400 {
		l = append(l, step{what: "put", name: "a", key: key(i), value: long(96, byte(i))})
		if i%90 == 0 {
			l = append(l, turn(i/90)...)
		}
	}
	for i, n := range x.Perm(400) {
		l = append(l, step{what: "delete", name: "a", key: key(n)})
		if i%90 == 0 {
			l = append(l, turn(i/90)...)
		}
	}
	return append(l, step{what: "commit"})
}

func manyTrees() []step {
	l := []step{{what: "begin"}}
	name := func(i int) string { return fmt.Sprintf("%03d%s", i, strings.Repeat("n", 61)) }
	for i := range api.MaxTrees {
		l = append(l, step{what: "make", name: name(i)}, step{what: "put", name: name(i), key: "k", value: "v"})
		if i%50 == 0 {
			l = append(l, turn(i/50)...)
		}
	}
	l = append(l, step{what: "commit"}, step{what: "begin"})
	for i := range api.MaxTrees {
		l = append(l, step{what: "put", name: name(i), key: "k", value: "w"}) // no page of the last commit is left
	}
	l = append(l, step{what: "commit"}, step{what: "begin"})
	for i := range api.MaxTrees {
		l = append(l, step{what: "drop", name: name(i * 37 % api.MaxTrees)})
	}
	return append(l, step{what: "commit"})
}

func longValues() []step {
	l := []step{{what: "begin"}, {what: "make", name: "a"}}
	for i := range 60 {
		l = append(l, step{what: "put", name: "a", key: fmt.Sprint("k", i%7), value: long([]int{65536, 97, 496, 497, 30000}[i%5], byte(i))})
		if i%3 == 0 {
			l = append(l, step{what: "delete", name: "a", key: fmt.Sprint("k", i%4)})
		}
		if i%6 == 0 {
			l = append(l, turn(i/6)...)
		}
	}
	return append(l, step{what: "drop", name: "a"}, step{what: "commit"})
}

func loads() []step {
	l := []step{{what: "begin"}, {what: "make", name: "a"}, {what: "make", name: "b"}}
	for i, n := range []int{1, 300, 2, 0, 300, 300, 3} {
		l = append(l,
			step{what: "load", name: "a", pairs: numbered(n, 96)},
			step{what: "load", name: "b", pairs: numbered(n/9, 700)},
			step{what: "load", name: "a", pairs: numbered(n, 90)})
		if i != 4 {
			l = append(l, turn(i)...)
		}
	}
	return append(l, step{what: "commit"})
}

// longTransactions change all that there is, over and over, ahead of a Commit.
func longTransactions(x *rand.Rand) []step {
	l := []step{{what: "begin"}, {what: "make", name: "a"}, {what: "load", name: "a", pairs: numbered(200, 50)}}
	for i := range 3 {
		l = append(l, turn(i)...)
		for _, n := range x.Perm(600) {
			l = append(l, step{what: "put", name: "a", key: fmt.Sprintf("k%05d", n%200), value: long(n%130, byte(i))})
		}
	}
	return append(l, step{what: "commit"})
}

func oneValue() []step {
	l := []step{{what: "begin"}, {what: "make", name: "a"}}
	for i := range 30 {
		l = append(l, step{what: "put", name: "a", key: "k", value: long(65536, byte(i))})
		if i%4 == 3 {
			l = append(l, turn(i)...)
		}
	}
	return append(l, step{what: "commit"})
}

// P17.8: a device of just as many pages as the chapter says refuses nothing.
func TestRoomy(t *testing.T) {
	t.Parallel()
	for _, engine := range engines() {
		for _, size := range []int{512, 2048} {
			for what, steps := range lives() {
				r := newRig(t, engine, size, max(12000000/size, 300))
				r.what += ", " + what
				r.plays(steps)
				pages := r.meter.roomy()
				if size == 512 && what == "cells as long as may be" {
					same(t, "pairs of both states", r.meter.pairs > 600, true)
				}
				// Once more, on a device of just so many pages.
				r = newRig(t, engine, size, pages)
				r.what += ", " + what + ", roomy"
				r.plays(steps)
				same(t, r.what+": pages", r.meter.roomy(), pages)
				r.whole()
				r.looks()
			}
		}
	}
}

// plays does all steps; none may be refused for want of pages.
func (r *rig) plays(steps []step) {
	r.t.Helper()
	for _, s := range steps {
		r.does(s)
	}
	r.settle()
}

// P17.8: a device that is opened anew with many free pages is roomy as well.
func TestRoomyWhenOpenedAnew(t *testing.T) {
	t.Parallel()
	for _, engine := range engines() {
		steps := slices.Concat(longValues(), loads()[3:])
		r := newRig(t, engine, 512, 20000)
		r.plays(longCells(chance(4)))
		r.plays([]step{{what: "begin"}, {what: "drop", name: "a"}, {what: "make", name: "b"}})
		for range 2 {
			r.plays(steps)
			r.plays([]step{{what: "begin"}, {what: "make", name: "a"}, {what: "commit"}})
		}
		pages := r.meter.roomy()
		r = newRig(t, engine, 512, pages)
		r.plays(longCells(chance(4)))
		r.plays([]step{{what: "begin"}, {what: "drop", name: "a"}, {what: "make", name: "b"}})
		for range 2 {
			r.reopen()
			r.plays(steps)
			r.reopen()
			r.plays([]step{{what: "begin"}, {what: "make", name: "a"}, {what: "commit"}})
		}
		r.looks()
	}
}
