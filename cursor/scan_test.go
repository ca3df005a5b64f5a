package cursor_test

import (
	"fmt"
	"iter"
	"slices"
	"strings"
	"testing"

	"espalier/api"
	"espalier/cursor"
)

// wanted is the keys from lo on that stand ahead of hi, rising or falling.
func wanted(keys []string, lo, hi string, reverse bool) []string {
	var l []string
	for _, k := range keys {
		if k >= lo && (hi == "" || k < hi) {
			l = append(l, k)
		}
	}
	if reverse {
		slices.Reverse(l)
	}
	return l
}

// someBounds are keys that are there and that are not, the empty one too.
func someBounds(keys []string) []string {
	l := []string{"", "\x00", "\xff\xff\xff", long(300)}
	for i, k := range keys {
		l = append(l, k)
		if i%2 == 0 {
			l = append(l, k+"\x00")
		} else {
			l = append(l, k[:len(k)-1])
		}
	}
	return l
}

// P13.5, P13.6: every pair of bounds among keys that are there and that are not, either way.
func TestScanOfEveryPairOfBounds(t *testing.T) {
	for _, engine := range engines() {
		for _, g := range shapes(t, engine, 512) {
			bounds := someBounds(g.keys)
			for _, lo := range bounds {
				for _, hi := range bounds {
					for _, reverse := range []bool{false, true} {
						what := fmt.Sprintf("%s: Scan(%.20q, %.20q, %v)", g.what, lo, hi, reverse)
						got := scanned(g.s, g.root, lo, hi, reverse, 1000)
						samePairs(t, what, got, fine(values(wanted(g.keys, lo, hi, reverse)...)))
					}
				}
			}
			g.s.justRead(t, g.what)
		}
	}
}

// P13.5: of pages of other sizes, some pairs.
func TestScanOfOtherSizes(t *testing.T) {
	for _, engine := range engines() {
		for _, size := range []int{1024, 8192, 65536} {
			for _, g := range shapes(t, engine, size) {
				for i := range len(g.keys) + 1 {
					lo, hi := "", ""
					if i > 0 {
						lo = g.keys[i-1]
					}
					if i+3 < len(g.keys) {
						hi = g.keys[i+3]
					}
					for _, reverse := range []bool{false, true} {
						what := fmt.Sprintf("%s: Scan(%q, %q, %v)", g.what, lo, hi, reverse)
						samePairs(t, what, scanned(g.s, g.root, lo, hi, reverse, 1000), fine(values(wanted(g.keys, lo, hi, reverse)...)))
					}
				}
			}
		}
	}
}

// P13.5: of no room, and of bounds between which nothing can be, there is nothing, and nothing is read, whatever the root is.
func TestScanOfNothing(t *testing.T) {
	same(t, "no room", told(nil, 2, "", "", false), "")
	same(t, "no room, reverse", told(nil, 2, "a", "b", true), "")
	same(t, "no room, no root", told(nil, 0, "", "", false), "")
	for _, engine := range engines() {
		s := newShelf(engine, 512)
		s.leaf(t, 2, "a", "b", "c")
		s.held[3] = make([]byte, 512)
		for _, root := range []int{0, 2, 3, 4, -1} {
			for _, x := range [][2]string{{"b", "b"}, {"b", "a"}, {"c", "b"}, {"a\x00", "a"}, {"ab", "a"}, {"\xff", "b"}, {"\x00", "\x00"}, {long(300), long(300)}, {long(301), long(300)}} {
				what := fmt.Sprintf("root %d, %.20q to %.20q", root, x[0], x[1])
				same(t, what, told(s, root, x[0], x[1], false), "")
				same(t, what+", reverse", told(s, root, x[0], x[1], true), "")
			}
		}
		same(t, "asked", len(s.acts), 0)
	}
}

// P13.5: Scan itself reads nothing; a range does.
func TestScanReadsInTheRange(t *testing.T) {
	for _, engine := range engines() {
		s := newShelf(engine, 512)
		all := cursor.Scan(s, 2, nil, nil, false)
		s.leaf(t, 2, "a", "b")
		same(t, "the page that was laid behind the call", keysOf(all), "a b")
		s.leaf(t, 2, "c")
		same(t, "R7: what there is when a range begins", keysOf(all), "c")
		delete(s.held, 2)
		same(t, "a lost page", keysOf(all), "30")
		s.leaf(t, 2, "d")
		same(t, "there again", keysOf(all), "d")
	}
}

// keysOf is the keys that a range tells, and the numbers of errors.
func keysOf(all iter.Seq2[api.Cell, api.Errno]) string {
	var l []string
	for c, e := range all {
		if e != api.OK {
			l = append(l, fmt.Sprint(int(e)))
			continue
		}
		l = append(l, string(c.Key))
	}
	return strings.Join(l, " ")
}

// P13.5: left early at each cell, and ranged over again.
func TestScanLeftEarly(t *testing.T) {
	for _, engine := range engines() {
		for _, g := range shapes(t, engine, 512) {
			for _, reverse := range []bool{false, true} {
				want := fine(values(wanted(g.keys, "", "", reverse)...))
				all := cursor.Scan(g.s, g.root, nil, nil, reverse)
				for most := range len(g.keys) + 2 {
					var l []pair
					for c, e := range all {
						if len(l) == most {
							break
						}
						l = append(l, pair{c, e})
					}
					samePairs(t, fmt.Sprintf("%s, %d of them", g.what, most), l, want[:min(most, len(want))])
				}
				same(t, g.what+": whole, behind all that", keysOf(all), strings.Join(wanted(g.keys, "", "", reverse), " "))
			}
		}
	}
}

// P13.5: one that is left is told nothing more, an error neither; what lies behind is not met.
func TestScanToldNoMore(t *testing.T) {
	for _, engine := range engines() {
		s := newShelf(engine, 512)
		s.leaf(t, 5, "a", "b")
		s.branch(t, 2, lead("", 5), lead("c", 9))
		s.branch(t, 3, lead("", 9), lead("a", 5))
		for _, x := range []struct {
			root    int
			reverse bool
		}{{2, false}, {3, true}} {
			for most := 1; most <= 3; most++ {
				calls := 0
				cursor.Scan(s, x.root, nil, nil, x.reverse)(func(c api.Cell, e api.Errno) bool {
					calls++
					same(t, "the error at last", e != api.OK, calls == 3)
					return calls < most
				})
				same(t, "calls", calls, most)
			}
			calls := 0
			cursor.Scan(s, x.root, nil, nil, x.reverse)(func(c api.Cell, e api.Errno) bool {
				calls++
				return true
			})
			same(t, "calls of one that goes on behind the error", calls, 3)
		}
	}
}

// P13.5: of bad pages the cells up to there, then a zero cell with the error, and nothing behind it; each time anew.
func TestScanOfBadPages(t *testing.T) {
	for _, engine := range engines() {
		s := newShelf(engine, 512)
		root, keys := threeLevels(t, s)
		// The leaf of each page, and how many cells there are ahead of it and behind it.
		for _, x := range []struct{ page, ahead, behind int }{{10, 0, 11}, {11, 2, 7}, {12, 6, 5}, {13, 8, 2}, {14, 11, 0}, {20, 0, 7}, {21, 6, 0}, {2, 0, 0}} {
			was := s.held[x.page]
			for _, want := range []api.Errno{api.ErrPage, api.ErrTree} {
				delete(s.held, x.page)
				if want == api.ErrTree {
					s.lay(t, x.page, api.PageLeaf)
				}
				rising := append(fine(values(keys[:x.ahead]...)), pair{e: want})
				falling := append(fine(values(wanted(keys[len(keys)-x.behind:], "", "", true)...)), pair{e: want})
				all, back := cursor.Scan(s, root, nil, nil, false), cursor.Scan(s, root, nil, nil, true)
				for range 2 {
					samePairs(t, fmt.Sprint("page ", x.page), pairsOf(all), rising)
					samePairs(t, fmt.Sprint("page ", x.page, ", reverse"), pairsOf(back), falling)
				}
			}
			s.held[x.page] = was
		}
		s.justRead(t, "bad pages")
	}
}

func pairsOf(all iter.Seq2[api.Cell, api.Errno]) []pair {
	var l []pair
	for c, e := range all {
		l = append(l, pair{c, e})
	}
	return l
}

// P13.5: bounds and bad pages, each pair, beside the chapter's words.
func TestScanOfBadPagesWithBounds(t *testing.T) {
	for _, engine := range engines() {
		s := newShelf(engine, 512)
		root, keys := threeLevels(t, s)
		for _, page := range []int{10, 11, 12, 13, 14, 20, 21} {
			was := s.held[page]
			delete(s.held, page)
			bounds := someBounds(keys)
			for _, lo := range bounds {
				for _, hi := range bounds {
					for _, reverse := range []bool{false, true} {
						what := fmt.Sprintf("page %d lost: Scan(%.20q, %.20q, %v)", page, lo, hi, reverse)
						samePairs(t, what, scanned(s, root, lo, hi, reverse, 1000), s.wantScan(root, lo, hi, reverse, 1000))
					}
				}
			}
			s.held[page] = was
		}
	}
}

// P13.5: ranges within a range, each of which goes its own way; one within another, three deep, and one that is left on the way.
func TestScanWithinItself(t *testing.T) {
	for _, engine := range engines() {
		s := newShelf(engine, 512)
		root, keys := threeLevels(t, s)
		for _, reverse := range []bool{false, true} {
			want := wanted(keys, "", "", reverse)
			all := cursor.Scan(s, root, nil, nil, reverse)
			var outer []string
			for c := range all {
				outer = append(outer, string(c.Key))
				n := 0
				for d := range all {
					same(t, "within", string(d.Key), want[n])
					if n++; n == len(outer) {
						same(t, "as far as the outer one", string(d.Key), string(c.Key))
						break
					}
					for e := range all {
						same(t, "deeper", string(e.Key), want[0])
						break
					}
				}
				same(t, "whole within", keysOf(all), strings.Join(want, " "))
			}
			same(t, "the outer one", strings.Join(outer, " "), strings.Join(want, " "))
		}
	}
}

// P13.5: two ranges pulled in turns, of one Scan and of two.
func TestScansInTurns(t *testing.T) {
	for _, engine := range engines() {
		s := newShelf(engine, 512)
		root, keys := threeLevels(t, s)
		all, back := cursor.Scan(s, root, nil, nil, false), cursor.Scan(s, root, nil, nil, true)
		a, stopA := iter.Pull2(all)
		b, stopB := iter.Pull2(back)
		c, stopC := iter.Pull2(all)
		for i, key := range keys {
			x, _, is := a()
			same(t, "rising", is, true)
			same(t, "rising", string(x.Key), key)
			x, _, is = b()
			same(t, "falling", is, true)
			same(t, "falling", string(x.Key), keys[len(keys)-1-i])
			if i%2 == 0 {
				x, _, is = c()
				same(t, "rising, at half the pace", is, true)
				same(t, "rising, at half the pace", string(x.Key), keys[i/2])
			}
		}
		_, _, is := a()
		same(t, "rising: the end", is, false)
		_, _, is = b()
		same(t, "falling: the end", is, false)
		stopA()
		stopB()
		stopC()
	}
}
