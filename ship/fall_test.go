package ship_test

import (
	"fmt"
	"math/rand"
	"testing"

	"espalier/api"
	"espalier/plate"
	"espalier/ship"
)

// chased is a follower that is sent one store's deltas while its power fails, and what it may have.
type chased struct {
	t      *testing.T
	x      *rand.Rand
	p      *plate.Plate
	f      *ship.Follower
	points []*point
	at     int // the commit that it has; below 0: nothing
	seen   map[string]int
}

// check holds it to have that commit, whole, or nothing.
func (c *chased) check(what string) {
	c.t.Helper()
	if c.at < 0 {
		hasNothing(c.t, what, c.f)
		return
	}
	has(c.t, what, c.f, c.p, c.points[c.at])
}

// found is what it has, as its answers tell.
func (c *chased) found() int {
	if _, e := c.f.Store(); e == api.ErrNoMeta {
		return -1
	}
	return c.f.At()
}

// rise starts the device till a follower is made of it: there the power may fail too.
func (c *chased) rise() {
	c.t.Helper()
	for {
		c.p.Start()
		if c.x.Intn(3) == 0 {
			c.p.Arm(c.x.Intn(3), drawnFall(c.x, 2, c.p.Page()))
		}
		f, e := ship.NewFollower(c.p)
		if e == api.OK {
			c.f = f
			c.p.Arm(-1, api.Fall{})
			return
		}
		c.seen["fell in NewFollower"]++
		same(c.t, "NewFollower", e, api.ErrDown)
	}
}

// send is one delta; arm says whether the power may fail.
func (c *chased) send(what string, d api.Delta, arm bool) {
	c.t.Helper()
	if c.x.Intn(2) == 0 {
		b, e := ship.Encode(d)
		must(c.t, "Encode", e)
		d, e = ship.Decode(b)
		must(c.t, "Decode", e)
	}
	if arm {
		c.p.Arm(c.x.Intn(len(d.Pages)+10), drawnFall(c.x, len(d.Pages)+1, c.p.Page()))
	}
	e := c.f.Apply(d)
	c.p.Arm(-1, api.Fall{})
	switch {
	case e == api.OK && d.From == d.To && d.From > 0:
		c.seen["still"]++
		same(c.t, what+": still", c.at, d.To)
	case e == api.OK:
		c.seen["applied"]++
		c.at = d.To
	case e == api.ErrDown:
		c.fallen(what, d)
	default:
		c.seen["refused"]++
		same(c.t, what+": refused", e, api.ErrGap)
		same(c.t, what+": a gap", d.From > 0 && d.From != c.at, true)
	}
}

// fallen is behind an Apply in which the power has failed: it has what it had, or To, or, if From is 0, nothing.
func (c *chased) fallen(what string, d api.Delta) {
	c.t.Helper()
	isDown(c.t, what, c.f, max(c.at, 0), d)
	c.rise()
	now := c.found()
	switch now {
	case c.at:
		c.seen["fell, has what it had"]++
	case d.To:
		c.seen["fell, has the new one"]++
	default:
		c.seen["fell, has nothing"]++
		same(c.t, fmt.Sprint(what, ": from ", d.From, " to ", d.To, ", it had ", c.at, ", has ", now), now < 0 && d.From == 0, true)
	}
	c.at = now
}

// P23.7: deltas of one store, drawn, some not at all, some twice, while the power fails at drawn acts with drawn stays: the follower always has a commit whole, or nothing.
func TestFollowersWhosePowerFails(t *testing.T) {
	for _, engine := range engines() {
		for _, size := range []int{512, 4096} {
			for seed := range int64(2) {
				t.Run(fmt.Sprint("engine ", engine, ", pages of ", size, ", seed ", seed), func(t *testing.T) {
					t.Parallel()
					x := chance(7*seed + int64(engine+size))
					_, points := drawn(t, engine, size, 1000, x.Int63(), 9)
					p := plate.New(size, 1000)
					c := &chased{t, x, p, follow(t, p), points, -1, map[string]int{}}
					for round := range 160 {
						from, to := c.some()
						c.send(fmt.Sprint("round ", round), take(t, from, to), x.Intn(3) > 0)
						c.check(fmt.Sprint("round ", round))
						if x.Intn(10) == 0 {
							c.p.Crash(drawnFall(x, 3, size))
							c.rise()
							c.check(fmt.Sprint("round ", round, ", crashed"))
						}
					}
					for _, what := range []string{"applied", "refused", "still", "fell, has what it had", "fell, has the new one", "fell, has nothing"} {
						same(t, fmt.Sprint(c.seen, " ", what), c.seen[what] > 0, true)
					}
				})
			}
		}
	}
}

// some is two looks to take a delta between: mostly from what the follower has.
func (c *chased) some() (from, to *point) {
	last := len(c.points) - 1
	switch at := c.at; {
	case at >= 0 && c.x.Intn(4) > 0:
		from = c.points[at]
		return from, c.points[at+c.x.Intn(min(4, last-at+1))]
	case c.x.Intn(3) > 0:
		return nil, c.points[c.x.Intn(last+1)]
	}
	n := c.x.Intn(last + 1)
	return c.points[n], c.points[n+c.x.Intn(last+1-n)]
}

// P23.7: of some deltas, wherever the power fails, and whatever stays.
func TestFallsAtEachAct(t *testing.T) {
	for _, engine := range engines() {
		t.Run(fmt.Sprint("engine ", engine), func(t *testing.T) {
			t.Parallel()
			x := chance(int64(engine))
			_, points := table(t, engine)
			for _, y := range []struct{ had, from, to int }{{-1, -1, 0}, {-1, -1, 2}, {0, 0, 1}, {1, 1, 2}, {1, 1, 3}, {0, 0, 2}, {1, 1, 1}, {1, -1, 3}, {2, -1, 1}, {3, -1, 3}, {3, -1, 0}} {
				base := plate.New(512, 400)
				f := follow(t, base)
				if y.had >= 0 {
					// Through commit 0, so that both meta pages are in use.
					must(t, "Apply", f.Apply(take(t, nil, points[0])), f.Apply(take(t, nil, points[y.had])))
				}
				var from *point
				if y.from >= 0 {
					from = points[y.from]
				}
				d := take(t, from, points[y.to])
				for n := range len(d.Pages) + 10 {
					for _, fall := range []api.Fall{{Torn: -1}, {Keep: []int{0, 1, 2, 3, 4, 5, 6, 7, 8, 9, 10}, Torn: -1}, {Torn: 0, At: 200}, drawnFall(x, len(d.Pages)+1, 512)} {
						p := loaded(t, base.Image(), 512)
						c := &chased{t, x, p, follow(t, p), points, y.had, map[string]int{}}
						p.Arm(n, fall)
						c.send(fmt.Sprint(y, ", ", n, " acts, ", fall), d, false)
						c.check(fmt.Sprint(y, ", ", n, " acts, ", fall))
						// Sent once more from nothing, it comes to what it should have.
						c.send("from nothing", take(t, nil, points[y.to]), false)
						same(t, "from nothing", c.at, y.to)
						if n%5 == 0 {
							c.check("from nothing")
						}
					}
				}
			}
		})
	}
}

// P23.7, P0.2: a follower that is led on commit by commit while the store goes on, falls, and is led on from wherever it is.
func TestFollowingAStoreThatGoesOn(t *testing.T) {
	for _, engine := range engines() {
		t.Run(fmt.Sprint("engine ", engine), func(t *testing.T) {
			t.Parallel()
			x := chance(int64(40 + engine))
			r := newRig(t, engine, 512, 1500)
			c := &chased{t, x, plate.New(512, 1500), nil, []*point{r.began()}, -1, map[string]int{}}
			c.f = follow(t, c.p)
			for i := range 50 {
				c.points = append(c.points, r.some(x, 10+x.Intn(30)).commit())
				var from *point
				if c.at >= 0 {
					from = c.points[c.at]
				}
				c.send(fmt.Sprint("commit ", i+1), take(t, from, c.points[i+1]), x.Intn(3) == 0)
				c.check(fmt.Sprint("commit ", i+1))
			}
			same(t, fmt.Sprint(c.seen), c.seen["applied"] > 20 && c.seen["refused"] == 0, true)
		})
	}
}
