package diff_test

import (
	"fmt"
	"math/rand"
	"strings"
	"testing"

	"espalier/api"
	"espalier/diff"
)

// work makes drawn changes.
func (r *rig) work(x *rand.Rand) {
	names := []string{"a", "b/c", "d-_", "0", "e", "t/p"}
	key := func() string {
		return strings.Repeat(string(rune('a'+x.Intn(4))), x.Intn(50)) + fmt.Sprint(x.Intn(80))
	}
	value := func() string {
		if x.Intn(6) == 0 {
			return long(x.Intn(3000), byte(x.Intn(3)))
		}
		return long(x.Intn(60), byte(x.Intn(3)))
	}
	for range 1 + x.Intn(25) {
		name := names[x.Intn(len(names))]
		m, is := r.working[name]
		switch k := x.Intn(50); {
		case !is:
			r.make(name)
		case k == 0:
			r.drop(name)
		case k == 1:
			r.drop(name).make(name).load(name, m) // as it was, in other pages
		case k < 5:
			m := map[string]string{}
			for range x.Intn(70) {
				m[key()] = value()
			}
			r.load(name, m)
		case k < 20 && len(m) > 0:
			// One that is there goes, or is laid once more, as it is or not.
			at := x.Intn(len(m))
			for _, k := range pairsOf(m) {
				if at--; at >= 0 {
					continue
				}
				switch x.Intn(3) {
				case 0:
					r.put(name, k, m[k])
				case 1:
					r.put(name, k, value())
				default:
					r.delete(name, k)
				}
				break
			}
		default:
			r.put(name, key(), value())
		}
	}
}

// pairsOf is the keys of a tree, sorted.
func pairsOf(m map[string]string) []string {
	var keys []string
	for _, c := range pairsDiffer("", nil, m) {
		keys = append(keys, string(c.Key))
	}
	return keys
}

// P22.1, P22.2, P22.6: drawn histories; each look that is open with each other one, either way.
func TestHistories(t *testing.T) {
	t.Parallel()
	for _, engine := range engines() {
		for _, size := range []int{512, 2048} {
			x := chance(int64(size + engine))
			r := newRig(t, engine, size, 4000)
			points := []point{r.began()}
			for i := range 25 {
				r.work(x)
				if x.Intn(9) == 0 {
					must(t, "Rollback", r.s.Rollback(), r.s.Begin())
					r.working = points[len(points)-1].has.copied()
				}
				points = append(points, r.commit())
				if len(points) > 6 {
					gone := x.Intn(len(points) - 1)
					points[gone].v.Close()
					points = append(points[:gone], points[gone+1:]...)
				}
				last := points[len(points)-1]
				for j, p := range points {
					bothWays(t, fmt.Sprint("engine ", engine, ", pages of ", size, ", commit ", i+1, " and look ", j), p, last)
				}
				if t.Failed() {
					return
				}
			}
		}
	}
}

// P22.5: what List tells, carried out in another store that stands as the one, makes it stand as the other does; turned round, it makes it stand as before. In its own store, too.
func TestCarriedOut(t *testing.T) {
	t.Parallel()
	for _, engine := range engines() {
		x := chance(int64(77 + engine))
		r := newRig(t, engine, 512, 4000)
		others := []*rig{newRig(t, api.Plain, 512, 4000), newRig(t, api.Packed, 512, 4000), newRig(t, api.Plain, 1024, 2000), newRig(t, api.Packed, 16384, 300)}
		last := r.began()
		for i := range 9 {
			what := fmt.Sprint("engine ", engine, ", commit ", i+1)
			r.work(x)
			now := r.commit()
			l, _, e := diff.List(last.v, now.v)
			must(t, "List", e)
			back, _, e := diff.List(now.v, last.v)
			must(t, "List back", e)
			turned := diff.Turn(l)
			for j, o := range others {
				what := fmt.Sprint(what, ", store ", j)
				o.apply(what, l, now.has)
				o.apply(what+", turned round", turned, last.has)
				o.apply(what+", once more", l, now.has)
				o.apply(what+", listed back", back, last.has)
				o.apply(what+", that turned round", diff.Turn(back), now.has)
				o.commit().v.Close()
			}
			r.apply(what+", in its own store, turned round", turned, last.has)
			r.apply(what+", in its own store", l, now.has)
			if x.Intn(3) == 0 {
				again := r.commit()
				same(t, what+": nothing differs at last", len(tells(t, what+", carried out there and back", now, again)), 0)
				now.v.Close()
				now = again
			}
			last.v.Close()
			last = now
			if t.Failed() {
				return
			}
		}
	}
}

// P22.6: each turned round, in its own order: the changes of the one List are those of the other one, the other way round.
func TestBack(t *testing.T) {
	for _, engine := range engines() {
		x := chance(int64(5 + engine))
		r := newRig(t, engine, 512, 4000)
		last := r.began()
		for range 12 {
			r.work(x)
			now := r.commit()
			l, n, e := diff.List(last.v, now.v)
			back, m, f := diff.List(now.v, last.v)
			must(t, "List", e, f)
			same(t, "as many pages", n, m)
			turned := map[string]int{}
			for _, text := range asTexts(diff.Turn(l)) {
				turned[text]++
			}
			for _, text := range asTexts(back) {
				turned[text]--
			}
			for text, n := range turned {
				same(t, text, n, 0)
			}
			last = now
		}
	}
}
