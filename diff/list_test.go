package diff_test

import (
	"fmt"
	"strings"
	"testing"

	"espalier/api"
	"espalier/diff"
)

// P22.2, P22.6: of looks at one commit nothing differs, and no page.
func TestOneCommit(t *testing.T) {
	for _, engine := range engines() {
		r := newRig(t, engine, 512, 600)
		o := r.began()
		bothWays(t, "commit 0", o, r.began())
		bothWays(t, "commit 0, one look", o, o)
		a := r.make("a", "b").load("a", numbered(200, 30)).put("b", "k", long(5000, 'k')).commit()
		v, e := r.s.View()
		must(t, "View", e)
		same(t, "how many differ", len(tells(t, "two looks at one commit", a, point{v, a.has, a.used})), 0)
		bothWays(t, "one look", a, a)
		b := r.commit()
		same(t, "how many differ", len(tells(t, "a commit of nothing", a, b)), 0)
		same(t, "no page", a.apart(b), 0)
	}
}

// P22.2: the pages of trees and values, as they come, go and become other ones: those in one look alone, not those that both have.
func TestPages(t *testing.T) {
	t.Parallel()
	for _, engine := range engines() {
		r := newRig(t, engine, 512, 4000)
		points := []point{r.began()}
		// P22.6 of all points, each with each.
		note := func() { points = append(points, r.commit()) }
		r.make("a")
		note()
		r.put("a", "k", long(96, 'k'))
		note()
		r.put("a", "k", long(97, 'k'))
		note()
		r.put("a", "k", long(496, 'k')).put("a", "l", long(497, 'l'))
		note()
		r.put("a", "m", long(65536, 'm'))
		note()
		r.put("a", "n", "beside them").make("b")
		note()
		r.load("b", numbered(300, 90))
		note()
		r.delete("b", "k00299").put("b", "k00001", long(2000, 'x'))
		note()
		r.put("b", "k00001", long(2000, 'y')).drop("a")
		note()
		r.drop("b")
		note()
		r.make("a", "b")
		note()
		for i, p := range points {
			for j, q := range points {
				bothWays(t, fmt.Sprint("from ", i, " to ", j), p, q)
			}
		}
		// A change beside a long value leaves the value's pages where they are.
		_, n, _ := diff.List(points[5].v, points[6].v)
		same(t, "a leaf and the catalog, on either side", n, 4)
		_, n, _ = diff.List(points[4].v, points[5].v)
		same(t, "and 133 pages of a value that came", n, 4+133)
	}
}

// P22.2: trees that grow and fall by levels, and what they have in common at unlike heights.
func TestHeights(t *testing.T) {
	for _, engine := range engines() {
		r := newRig(t, engine, 512, 3000)
		r.make("a", "b")
		key := func(i int) string { return fmt.Sprintf("%04d%s", i, strings.Repeat("k", 56)) }
		points := []point{r.began()}
		for _, n := range []int{1, 4, 12, 40, 130, 400} {
			for i := len(r.working["a"]); i < n; i++ {
				r.put("a", key(i), long(i%97, byte(i)))
			}
			points = append(points, r.commit())
		}
		for _, n := range []int{200, 50, 15, 5, 2, 0} {
			for i := 399; len(r.working["a"]) > n; i-- {
				r.delete("a", key(i))
			}
			points = append(points, r.commit())
		}
		common := 0
		for i, p := range points {
			for j, q := range points {
				tells(t, fmt.Sprint("from ", i, " to ", j), p, q)
				if i < j && p.apart(q) < len(p.used)+len(q.used) {
					common++
				}
			}
		}
		same(t, "some have pages in common", common > 3, true)
	}
}

// The package's own: what both looks have is not gone into.
func TestFewPagesAreRead(t *testing.T) {
	for _, engine := range engines() {
		r := newRig(t, engine, 512, 12000)
		r.make("a", "b", "c").load("a", numbered(5000, 40)).load("b", numbered(2000, 200)).load("c", numbered(50, 9))
		a := r.commit()
		b := r.put("a", "k02500", "x").delete("b", "k00007").commit()
		before := r.p.Counts().Reads
		l, n, e := diff.List(a.v, b.v)
		must(t, "List", e)
		same(t, "what differs", fmt.Sprint(len(l), " ", n), fmt.Sprint(2, " ", a.apart(b)))
		reads := r.p.Counts().Reads - before
		same(t, fmt.Sprint("reads ", reads, " of ", len(a.used), " pages"), reads < 150, true)
	}
}

// P22.1, P22.2: a page that can't be read: what was told till then is right, then comes an error beside a zero change, and no more; List answers the error alone.
func TestRottenPages(t *testing.T) {
	for _, engine := range engines() {
		r := newRig(t, engine, 512, 600)
		a := r.make("a", "b", "c").load("a", numbered(60, 40)).put("b", "k", long(1500, 'k')).load("c", numbered(30, 90)).commit()
		b := r.load("a", numbered(61, 41)).put("b", "k", long(2000, 'k')).drop("c").make("d").put("d", "x", "1").commit()
		want := asTexts(differs(a.has, b.has))
		met := map[api.Errno]int{}
		for n := 2; n < b.v.Meta().High; n++ {
			for _, bad := range []string{strings.Repeat("\x00", 512), long(512, 9)} {
				good, e := r.p.Read(n)
				must(t, "Read", e, r.p.Write(n, []byte(bad)), r.p.Sync())
				for _, x := range [][2]point{{a, b}, {b, a}} {
					want := want
					if x[0].v == b.v {
						want = asTexts(differs(b.has, a.has))
					}
					got, e := through(t, "Between", x[0].v, x[1].v)
					met[e]++
					sameList(t, fmt.Sprint("page ", n, ": till then"), asTexts(got), want[:min(len(got), len(want))])
					same(t, fmt.Sprint("page ", n, ": all of it, or an error"), e != api.OK || len(got) == len(want), true)
					l, pages, f := diff.List(x[0].v, x[1].v)
					same(t, fmt.Sprint("page ", n, ": List"), f, e)
					if f != api.OK {
						same(t, "beside an error", fmt.Sprint(len(l), pages), "0 0")
					}
				}
				must(t, "mend", r.p.Write(n, good), r.p.Sync())
			}
		}
		same(t, fmt.Sprint("errors met: ", met), met[api.ErrTree] > 40 && met[api.ErrCorrupt] > 10 && len(met) <= 3, true)
		bothWays(t, "mended", a, b)
	}
}
