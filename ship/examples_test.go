package ship_test

import (
	"fmt"
	"slices"
	"testing"

	"espalier/api"
	"espalier/plate"
	"espalier/ship"
	"espalier/store"
)

// table is the store of the chapter's examples: three commits, and looks at commits 0 to 3.
func table(t *testing.T, engine int) (*rig, []*point) {
	t.Helper()
	r := newRig(t, engine, 512, 400)
	l := []*point{r.began()}
	l = append(l, r.make("a", "z").fill("a", 40, 30).put("a", "long", long(1300, 1)).commit())
	l = append(l, r.put("a", "k0007", "other").put("a", "long", long(900, 2)).commit())
	l = append(l, r.delete("a", "k0001").drop("z").make("b").put("b", "k", "v").commit())
	return r, l
}

// The chapter's table, row by row.
func TestExamples(t *testing.T) {
	for _, engine := range engines() {
		r, v := table(t, engine)
		_, w := table(t, engine)
		refuses(t, "Take(v1, nil)", v[1].v, nil, api.ErrArg)
		refuses(t, "Take(v2, v1)", v[2].v, v[1].v, api.ErrArg)
		refuses(t, "Take(v1, a view of another store)", v[1].v, w[2].v, api.ErrArg)

		d := take(t, nil, v[0])
		same(t, "Take(nil, v0)", fmt.Sprint(d.From, d.To, len(d.Pages)), "0 0 0")
		fresh := plate.New(512, 400)
		_, e := store.Open(fresh, engine)
		must(t, "Open", e)
		same(t, "its Meta", string(d.Meta), string(fresh.Image()[:512]))
		d = take(t, v[3], v[3])
		same(t, "Take(v3, v3)", fmt.Sprint(d.From, d.To, len(d.Pages)), "3 3 0")
		v[3].v.Close()
		refuses(t, "v3.Close(); Take(v1, v3)", v[1].v, v[3].v, api.ErrView)
		refuses(t, "Take(v3, v1)", v[3].v, v[1].v, api.ErrArg)

		f, e := ship.NewFollower(nil)
		same(t, "NewFollower(nil)", fmt.Sprint(f == nil, e), fmt.Sprint(true, api.ErrArg))
		p := plate.New(512, 400)
		f = follow(t, p)
		hasNothing(t, "f := NewFollower(p)", f)
		same(t, "Apply(Take(v1, v2))", f.Apply(take(t, v[1], v[2])), api.ErrGap)
		for range 2 {
			same(t, "Apply(Take(nil, v1))", f.Apply(take(t, nil, v[1])), api.OK)
			has(t, "At", f, p, v[1])
		}
		same(t, "Apply(Take(v1, v2))", f.Apply(take(t, v[1], v[2])), api.OK)
		same(t, "Apply(Take(v1, v2))", f.Apply(take(t, v[1], v[2])), api.ErrGap)
		has(t, "At", f, p, v[2])
		s, e := f.Store()
		must(t, "Store", e)
		names, e := s.Names()
		must(t, "Names", e)
		want, _ := v[2].v.Names()
		sameList(t, "Store(): Names", names, want)

		same(t, "a fresh Apply(Take(nil, v1))", f.Apply(take(t, nil, v[1])), api.OK)
		p.Arm(0, api.Fall{Keep: []int{0, 1, 2, 3, 4, 5, 6, 7, 8}, Torn: -1})
		same(t, "Arm(0, all stays); Apply(Take(v1, v2))", f.Apply(take(t, v[1], v[2])), api.ErrDown)
		same(t, "At", f.At(), 1)
		same(t, "Apply", f.Apply(take(t, v[1], v[2])), api.ErrDown)
		p.Start()
		isDown(t, "behind Start", f, 1, take(t, v[1], v[2]))
		has(t, "behind Start a new follower", follow(t, p), p, v[1])

		same(t, "v2's High is above 4", v[2].v.Meta().High > 4, true)
		same(t, "NewFollower of a plate of 4 pages: Apply(Take(nil, v2))", follow(t, plate.New(512, 4)).Apply(take(t, nil, v[2])), api.ErrFull)
		r.s.Close()
	}
}

// DOC.md's examples 9 and 10: a follower is sent a commit, and the next one.
func TestExamplesOfTheWhole(t *testing.T) {
	for _, engine := range engines() {
		r := newRig(t, engine, 512, 400)
		one := r.make("a").put("a", "k", "1").commit()
		p := plate.New(512, 400)
		f := follow(t, p)
		b, e := ship.Encode(take(t, nil, one))
		must(t, "Encode", e)
		d, e := ship.Decode(b)
		must(t, "Decode", e, f.Apply(d))
		has(t, "Ship 1", f, p, one)
		two := r.put("a", "k", "2").commit()
		has(t, "meanwhile", f, p, one)
		must(t, "Apply", f.Apply(take(t, one, two)))
		has(t, "Ship 1", f, p, two)
		sameList(t, "its store", slices.Sorted(slices.Values(two.has.lines())), []string{"a", `a/"k"="2"`})
	}
}
