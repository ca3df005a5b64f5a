package cache_test

import (
	"testing"

	"espalier/api"
	"espalier/cache"
	"espalier/plate"
)

// P4.2 to P4.4: the page that was used longest ago goes, and Gets, Puts and Pins use one.
func TestWhoGoes(t *testing.T) {
	for what, use := range map[string]func(c *cache.Cache, n int){
		"Get": func(c *cache.Cache, n int) { gets(t, c, n, 100+n) },
		"Put": func(c *cache.Cache, n int) { puts(t, c, n, 200+n, api.OK) },
		"Pin": func(c *cache.Cache, n int) {
			pins(t, c, n, api.OK)
			unpins(t, c, n, api.OK)
		},
	} {
		for _, x := range []struct{ used, leave []int }{
			{nil, []int{0, 1, 2, 3}},
			{[]int{3}, []int{0, 1, 2, 3}},
			{[]int{0}, []int{1, 2, 3, 0}},
			{[]int{1}, []int{0, 2, 3, 1}},
			{[]int{2}, []int{0, 1, 3, 2}},
			{[]int{3, 2, 1, 0}, []int{3, 2, 1, 0}},
			{[]int{0, 1, 2, 3}, []int{0, 1, 2, 3}},
			{[]int{0, 0, 2, 2, 0}, []int{1, 3, 2, 0}},
		} {
			t.Run(what, func(t *testing.T) {
				leaveInOrder(t, func() (*plate.Plate, *cache.Cache) {
					p, c := dirtied(t, 16, 4)
					for _, n := range x.used {
						use(c, n)
					}
					return p, c
				}, nil, x.leave...)
			})
		}
	}
}

// P4.2 to P4.4: clean pages, dirty ones and such as were pinned stand in one row, by their use alone.
func TestWhoGoesOfAllKinds(t *testing.T) {
	leaveInOrder(t, func() (*plate.Plate, *cache.Cache) {
		p, c := both(t, 16, 5)
		gets(t, c, 3, 4)
		puts(t, c, 0, 50, api.OK)
		pins(t, c, 2, api.OK)
		puts(t, c, 1, 51, api.OK)
		gets(t, c, 4, 5)
		unpins(t, c, 2, api.OK)
		gets(t, c, 0, 50)
		puts(t, c, 3, 53, api.OK)
		return p, c
	}, nil, 2, 1, 4, 0, 3)
}

// P4.4 to P4.6: Unpin, Flush, State, Drop, and whatever is refused, use no page.
func TestWhatUsesNoPage(t *testing.T) {
	for what, do := range map[string]func(p *plate.Plate, c *cache.Cache){
		"nothing": func(p *plate.Plate, c *cache.Cache) {},
		"State":   func(p *plate.Plate, c *cache.Cache) { c.State() },
		"Flush":   func(p *plate.Plate, c *cache.Cache) { flushes(t, c, api.OK) },
		"Unpin":   func(p *plate.Plate, c *cache.Cache) { unpins(t, c, 0, api.OK) },
		"ErrPin": func(p *plate.Plate, c *cache.Cache) {
			unpins(t, c, 1, api.ErrPin)
			unpins(t, c, 0, api.OK)
			unpins(t, c, 0, api.ErrPin)
		},
		"Drop": func(p *plate.Plate, c *cache.Cache) {
			drops(t, c, 0, api.ErrPinned)
			drops(t, c, 9, api.OK)
		},
		"ErrSize": func(p *plate.Plate, c *cache.Cache) {
			same(t, "Put", c.Put(0, page(1)[:511]), api.ErrSize)
			same(t, "Put", c.Put(1, append(page(1), 1)), api.ErrSize)
		},
		"ErrPage": func(p *plate.Plate, c *cache.Cache) {
			refusesGet(t, c, 16, api.ErrPage)
			pins(t, c, -1, api.ErrPage)
			puts(t, c, 16, 1, api.ErrPage)
		},
		"ErrDown": func(p *plate.Plate, c *cache.Cache) {
			p.Crash(api.Fall{})
			refusesGet(t, c, 7, api.ErrDown)
			pins(t, c, 7, api.ErrDown)
			puts(t, c, 7, 1, api.ErrDown)
			flushes(t, c, api.ErrDown)
			p.Start()
		},
		"a write that fails": func(p *plate.Plate, c *cache.Cache) {
			for _, ask := range []func() api.Errno{func() api.Errno { return c.Put(7, page(1)) }, func() api.Errno { return c.Pin(7) }, c.Flush} {
				p.Arm(0, api.Fall{Torn: -1})
				same(t, "a write that fails", ask(), api.ErrDown)
				p.Start()
			}
		},
	} {
		t.Run(what, func(t *testing.T) {
			leaveInOrder(t, func() (*plate.Plate, *cache.Cache) {
				p, c := dirtied(t, 16, 4)
				pins(t, c, 0, api.OK)
				gets(t, c, 3, 103)
				gets(t, c, 2, 102)
				do(p, c)
				c.Unpin(0)
				return p, c
			}, nil, 1, 0, 3, 2)
		})
	}
}

// P4.4, P4.9: pinned pages are passed by, wherever they stand in the row; unpinned, they go from where they stood.
func TestPinnedPagesArePassedBy(t *testing.T) {
	for mask := range 15 { // not all of the four
		var stay, order []int
		for n := range 4 {
			if mask>>n&1 == 1 {
				stay = append(stay, n)
			} else {
				order = append(order, n)
			}
		}
		script := func() (*plate.Plate, *cache.Cache) {
			p, c := dirtied(t, 16, 4)
			for n := range 4 {
				pins(t, c, n, api.OK)
			}
			for _, n := range order {
				unpins(t, c, n, api.OK)
			}
			return p, c
		}
		leaveInOrder(t, script, stay, order...)
		leaveInOrder(t, func() (*plate.Plate, *cache.Cache) {
			p, c := script()
			for _, n := range stay {
				unpins(t, c, n, api.OK)
			}
			return p, c
		}, nil, 0, 1, 2, 3)
	}
}

// P4.5: a dropped page leaves the row, from its ends and its midst; its frame is filled before any other page goes.
func TestRowBehindDrops(t *testing.T) {
	for _, x := range []struct{ dropped, leave []int }{
		{[]int{0}, []int{1, 2, 3, 5}},
		{[]int{1}, []int{0, 2, 3, 5}},
		{[]int{3}, []int{0, 1, 2, 5}},
		{[]int{1, 2}, []int{0, 3, 5, 6}},
		{[]int{3, 0}, []int{1, 2, 5, 6}},
		{[]int{0, 1, 2, 3}, []int{5, 6, 4, 7}},
	} {
		leaveInOrder(t, func() (*plate.Plate, *cache.Cache) {
			p, c := dirtied(t, 16, 4)
			for _, n := range x.dropped {
				drops(t, c, n, api.OK)
			}
			for _, n := range []int{5, 6, 4, 7}[:len(x.dropped)] {
				gets(t, c, n, n+1)
			}
			same(t, "State", c.State(), api.CacheState{Frames: 4, Held: 4, Dirty: 4 - len(x.dropped), Misses: len(x.dropped)})
			return p, c
		}, nil, x.leave...)
	}
}

// P4.5: a page that was dropped and is got again is read anew, and stands at the young end.
func TestDroppedAndGotAgain(t *testing.T) {
	leaveInOrder(t, func() (*plate.Plate, *cache.Cache) {
		p, c := dirtied(t, 16, 3)
		drops(t, c, 0, api.OK)
		gets(t, c, 0, 1)
		asked(t, p, 1, 0)
		has(t, c, 3, 2, 0)
		return p, c
	}, nil, 1, 2, 0)
}

// P4.2, P4.3, P4.7: a dirty page that goes is written, a clean one is not; Get and Pin read one page, Put none.
func TestWhatIsAskedForRoom(t *testing.T) {
	for what, x := range map[string]struct {
		ask   func(c *cache.Cache) api.Errno
		reads int
	}{
		"Get": {func(c *cache.Cache) api.Errno { _, e := c.Get(5); return e }, 1},
		"Pin": {func(c *cache.Cache) api.Errno { return c.Pin(5) }, 1},
		"Put": {func(c *cache.Cache) api.Errno { return c.Put(5, page(55)) }, 0},
	} {
		t.Run(what, func(t *testing.T) {
			p, c := both(t, 8, 2)
			gets(t, c, 0, 1)
			puts(t, c, 1, 101, api.OK)
			was := p.Image()
			same(t, "a clean one goes", x.ask(c), api.OK)
			asked(t, p, 1+x.reads, 0)
			sameBytes(t, "Image", p.Image(), was)
			same(t, "Evicted", c.State().Evicted, 1)
			keeps(t, p, c, 1, 5)

			p, c = dirtied(t, 8, 2)
			same(t, "a dirty one goes", x.ask(c), api.OK)
			asked(t, p, x.reads, 1)
			tells(t, p, 0, 100)
			tells(t, p, 1, 2)
			tells(t, p, 5, 6)
			same(t, "Evicted", c.State().Evicted, 1)
			same(t, "Loose", p.Loose(), 1)
			same(t, "Dirty", c.State().Dirty, 2-x.reads)
		})
	}
}

// P4.7: a page is not written twice: flushed, it goes as a clean one; put again, as a dirty one.
func TestFlushedPagesGoClean(t *testing.T) {
	p, c := dirtied(t, 8, 2)
	flushes(t, c, api.OK)
	asked(t, p, 0, 2)
	puts(t, c, 0, 60, api.OK)
	gets(t, c, 5, 6)
	asked(t, p, 1, 2)
	gets(t, c, 6, 7)
	asked(t, p, 2, 3)
	tells(t, p, 0, 60)
	tells(t, p, 1, 101)
	counted(t, c, 0, 2, 2)
}

// P4.2 to P4.4: the Write fails while room is made: the page stays, held and dirty, and nothing else has changed; so it is while the device is down.
func TestRoomThatFails(t *testing.T) {
	for what, x := range map[string]struct {
		ask   func(c *cache.Cache) api.Errno
		reads int
	}{
		"Get": {func(c *cache.Cache) api.Errno {
			b, e := c.Get(5)
			same(t, "bytes only without an error", len(b) == 0, e != api.OK)
			return e
		}, 1},
		"Pin": {func(c *cache.Cache) api.Errno { return c.Pin(5) }, 1},
		"Put": {func(c *cache.Cache) api.Errno { return c.Put(5, page(55)) }, 0},
	} {
		t.Run(what, func(t *testing.T) {
			p, c := dirtied(t, 8, 3)
			pins(t, c, 0, api.OK)
			state := c.State()
			p.Arm(0, api.Fall{Torn: 0, At: 7})
			same(t, what, x.ask(c), api.ErrDown)
			same(t, "State", c.State(), state)
			asked(t, p, x.reads, 1)
			same(t, "Up", p.Up(), false)
			was := look(p, c)
			same(t, what+" while down", x.ask(c), api.ErrDown)
			unchanged(t, "while down", look(p, c), was)
			for n := range 3 {
				gets(t, c, n, 100+n)
			}
			p.Start()
			same(t, what, x.ask(c), api.OK)
			tells(t, p, 1, 101)
			same(t, "Evicted", c.State().Evicted, 1)
			asked(t, p, 2*x.reads, 2)
			flushes(t, c, api.OK)
			tells(t, p, 0, 100)
			tells(t, p, 2, 102)
			keeps(t, p, c, 0, 2, 5)
		})
	}
}

// P4.2: a Get whose Read fails writes no dirty page, though one would have to go, and lets no clean one go.
func TestReadFailsAheadOfRoom(t *testing.T) {
	for _, dirty := range []bool{true, false} {
		p, c := dirtied(t, 8, 2)
		if !dirty {
			flushes(t, c, api.OK)
		}
		was := look(p, c)
		refusesGet(t, c, 8, api.ErrPage)
		pins(t, c, -1, api.ErrPage)
		unchanged(t, "behind ErrPage", look(p, c), was)
		p.Crash(api.Fall{Keep: []int{0, 1}, Torn: -1})
		was = look(p, c)
		refusesGet(t, c, 5, api.ErrDown)
		pins(t, c, 8, api.ErrDown)
		unchanged(t, "behind ErrDown", look(p, c), was)
		keeps(t, p, c, 0, 1)
	}
}

// P4.2 to P4.5: while the device is down, a page that is held is told, put, pinned and dropped as ever.
func TestHeldWhileDown(t *testing.T) {
	p, c := both(t, 8, 2)
	gets(t, c, 1, 2)
	p.Crash(api.Fall{})
	gets(t, c, 1, 2)
	pins(t, c, 1, api.OK)
	puts(t, c, 1, 50, api.OK)
	gets(t, c, 1, 50)
	unpins(t, c, 1, api.OK)
	same(t, "State", c.State(), api.CacheState{Frames: 2, Held: 1, Dirty: 1, Hits: 3, Misses: 1})
	drops(t, c, 1, api.OK)
	refusesGet(t, c, 1, api.ErrDown)
	asked(t, p, 1, 0)
}

// P4.2 to P4.5: one frame is enough.
func TestOneFrame(t *testing.T) {
	p, c := both(t, 8, 1)
	gets(t, c, 0, 1)
	gets(t, c, 1, 2)
	gets(t, c, 0, 1)
	counted(t, c, 0, 3, 2)
	puts(t, c, 0, 50, api.OK)
	puts(t, c, 1, 51, api.OK)
	tells(t, p, 0, 50)
	has(t, c, 1, 1, 0)
	pins(t, c, 1, api.OK)
	has(t, c, 1, 1, 1)
	refusesGet(t, c, 0, api.ErrPinned)
	refusesGet(t, c, 8, api.ErrPinned)
	puts(t, c, 0, 60, api.ErrPinned)
	puts(t, c, 8, 60, api.ErrPage)
	puts(t, c, 1, 61, api.OK)
	unpins(t, c, 1, api.OK)
	gets(t, c, 0, 50)
	tells(t, p, 1, 61)
	same(t, "State", c.State(), api.CacheState{Frames: 1, Held: 1, Hits: 1, Misses: 4, Evicted: 4})
	drops(t, c, 0, api.OK)
	has(t, c, 0, 0, 0)
	asked(t, p, 4, 2)
}
