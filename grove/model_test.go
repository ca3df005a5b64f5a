package grove_test

import (
	"fmt"
	"math/rand"
	"strings"
	"testing"

	"espalier/api"
	"espalier/grove"
)

// step is a call of a script.
type step struct {
	what, name, key, value string
	pairs                  []pair
}

// drawKey draws a key: most of them out of few, so that they are met again.
func drawKey(r *rand.Rand, most int) string {
	switch r.Intn(20) {
	case 0:
		return ""
	case 1:
		return strings.Repeat("x", most+1)
	case 2:
		return strings.Repeat("x", most-r.Intn(2)) // at the limit, and just below it
	case 3:
		return string([]byte{byte(r.Intn(256)), byte(r.Intn(256))})
	}
	return fmt.Sprintf("k%02d%s", r.Intn(60), strings.Repeat("y", r.Intn(3)*7))
}

func drawValue(r *rand.Rand) string {
	lengths := []int{0, 1, 9, 40, 90, 96, 97, 98, 200, 496, 497, 1000, 2500}
	if r.Intn(150) == 0 {
		lengths = []int{65536, 65537, 20000}
	}
	return long(lengths[r.Intn(len(lengths))], byte(r.Intn(256)))
}

// drawName draws a name: half of them alike, so that one tree grows.
func drawName(r *rand.Rand) string {
	if r.Intn(2) == 0 {
		return "a"
	}
	return []string{"a", "b", "c/d", "e", "f.g", "h-i_j", "Bad", "", strings.Repeat("n", 64), strings.Repeat("n", 65)}[min(r.Intn(11), 9)]
}

func drawPairs(r *rand.Rand, most int) []pair {
	var l []pair
	for i := range r.Intn(40) {
		l = append(l, pair{fmt.Sprintf("k%02d%s", i*3/2, strings.Repeat("z", r.Intn(2)*9)), drawValue(r)})
	}
	if len(l) > 1 && r.Intn(6) == 0 {
		l[1+r.Intn(len(l)-1)].key = drawKey(r, most)
	}
	return l
}

// script draws calls; keys may have so many bytes.
func script(r *rand.Rand, n, most int) []step {
	var l []step
	for range n {
		s := step{name: drawName(r)}
		switch k := r.Intn(100); {
		case k < 8:
			s.what = "make"
		case k < 10:
			s.what = "drop"
		case k < 66:
			s.what, s.key, s.value = "put", drawKey(r, most), drawValue(r)
		case k < 97:
			s.what, s.key = "delete", drawKey(r, most)
		default:
			s.what, s.pairs = "load", drawPairs(r, most)
		}
		l = append(l, s)
	}
	return l
}

// next is the change that a step asks for.
func (g *garden) next(s step) change {
	switch s.what {
	case "make":
		return g.makes(s.name)
	case "drop":
		return g.drops(s.name)
	case "put":
		return g.puts(s.name, s.key, s.value)
	case "delete":
		return g.deletes(s.name, s.key)
	}
	return g.loads(s.name, s.pairs...)
}

// P15.9: whatever is made, dropped, put, deleted and loaded, a grove answers what sorted maps answer, and is a good one on just the pages that it takes; and each change may be made in a room that has just as many pages as it may ask for, and in none that has fewer.
func TestOneMap(t *testing.T) {
	t.Parallel()
	for _, engine := range engines() {
		for _, size := range []int{512, 1024, 4096} {
			for _, way := range []string{"fresh", "now and then settled", "scattered"} {
				r := chance()
				s := newShelf(engine, size)
				if way == "scattered" {
					s.pick = anyPage(chance())
				}
				g := planted(t, fmt.Sprint("maps, engine ", engine, ", ", size, " bytes, ", way), s)
				g.make("a", "b")
				for i, step := range script(r, 400, 64) {
					g.does(g.next(step))
					if way != "fresh" && i%9 == 0 {
						g.room.settle()
					}
					if i%40 == 0 {
						g.looks()
					}
				}
				g.looks()
				for _, name := range g.want.names() {
					g.drop(name)
				}
				same(t, g.what+": pages left", len(g.room.held), 0)
			}
		}
	}
}

// P15.9: both engines, and all sizes of pages that take the keys, answer the same script alike.
func TestAllAnswerAlike(t *testing.T) {
	t.Parallel()
	steps := script(rand.New(rand.NewSource(99)), 1500, 64)
	var want []string
	for _, engine := range engines() {
		for _, size := range []int{512, 1024, 2048, 8192, 65536} {
			s := newShelf(engine, size)
			g := grove.Open(s, 0, 0)
			got := answers(g, s, steps)
			if want == nil {
				want = got
			}
			for i := range want {
				if got[i] != want[i] {
					t.Fatalf("engine %d, %d bytes: step %d, %s: %.200s, want %.200s", engine, size, i, steps[i].what, got[i], want[i])
				}
			}
		}
	}
}

// answers are what a grove tells, step by step, as texts. Keys that are too long for pages of 512 bytes are left out.
func answers(g *grove.Grove, s *shelf, steps []step) []string {
	var l []string
	for i, x := range steps {
		text := ""
		tooLong := len(x.key) > 64
		for _, p := range x.pairs {
			tooLong = tooLong || len(p.key) > 64
		}
		switch {
		case tooLong:
		case x.what == "make":
			text = fmt.Sprint(g.Make(x.name))
		case x.what == "drop":
			text = fmt.Sprint(g.Drop(x.name))
		case x.what == "put":
			text = fmt.Sprint(g.Put(x.name, []byte(x.key), []byte(x.value)))
		case x.what == "delete":
			text = fmt.Sprint(g.Delete(x.name, []byte(x.key)))
		default:
			text = fmt.Sprint(g.Load(x.name, tells(x.pairs...).all()))
		}
		n, e := g.Rank("a", []byte(x.key))
		p, is, f := g.At("a", i%50)
		names, _ := g.Names()
		_, trees := g.Root()
		text += fmt.Sprint(" ", n, e, p, is, f, names, trees)
		if i%100 == 0 {
			told, e := scanned(g, "a", x.key, "", i%200 == 0, 1000)
			text += fmt.Sprint(told, e)
			s.settle()
		}
		s.acts = s.acts[:0]
		l = append(l, text)
	}
	return l
}

// P15.9: a grove of several trees that have grown and shrunk again, of several levels, with a catalog of two.
func TestGrowAndShrink(t *testing.T) {
	t.Parallel()
	for _, engine := range engines() {
		s := newShelf(engine, 512)
		g := planted(t, fmt.Sprint("grow and shrink, engine ", engine), s)
		r := chance()
		var names []string
		for i := range 24 {
			names = append(names, fmt.Sprintf("%02d%s", i, strings.Repeat("t", 40)))
		}
		do := func(c change) {
			g.g, g.is = g.try("", g.room, c)
			g.want = c.then
			g.room.acts = g.room.acts[:0]
		}
		for _, name := range names {
			do(g.makes(name))
		}
		for i := range 1200 {
			do(g.puts(names[i%3], fmt.Sprintf("%04d", r.Intn(5000)), long(r.Intn(120), byte(i))))
			if i%50 == 0 {
				g.room.settle()
			}
		}
		same(t, g.what+": levels of the catalog", g.is.catalog.levels >= 2, true)
		same(t, g.what+": levels of a tree", g.is.trees[names[0]].levels >= 3, true)
		g.looks()
		for _, name := range names[:3] {
			l := g.want.rising(name)
			r.Shuffle(len(l), func(i, j int) { l[i], l[j] = l[j], l[i] })
			for _, p := range l {
				do(g.deletes(name, p.key))
			}
		}
		_, n := g.g.Root()
		same(t, g.what+": trees", n, len(names))
		sameList(t, g.what+": the catalog alone has pages", g.room.taken(), g.is.pages)
		for _, name := range names {
			do(g.drops(name))
		}
		same(t, g.what+": pages left", len(g.room.held), 0)
	}
}

// R6: two groves over the same root in rooms of their own go their own ways.
func TestTwoGroves(t *testing.T) {
	for _, engine := range engines() {
		g := stocked(t, "two", newShelf(engine, 512))
		root, n := g.g.Root()
		s := g.room.settled()
		h := grove.Open(s, root, n)
		image := s.image()
		g.put("a", "new", long(500, 'n'))
		g.drop("b")
		same(t, "the other room", s.image() == image, true)
		_, is, e := h.Get("b", []byte("k"))
		same(t, "the other grove", e, api.OK)
		same(t, "the other grove", is, true)
		r, k := h.Root()
		same(t, "the other root", r, root)
		same(t, "the other count", k, n)
	}
}
