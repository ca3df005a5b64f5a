package cache_test

import (
	"math"
	"testing"

	"espalier/api"
	"espalier/cache"
	"espalier/plate"
)

// strange are numbers that no page of a device of 8 has.
func strange() []int {
	return []int{-1, -2, 8, 9, 1 << 16, 1 << 32, math.MinInt, math.MaxInt}
}

// P4.1: which numbers of frames there are; nil without a device, whatever they are.
func TestNew(t *testing.T) {
	p := device(t, 4)
	for frames, is := range map[int]bool{math.MinInt: false, -1: false, 0: false, 1: true, 2: true, 4095: true, 4096: true, 4097: false, 1 << 32: false, math.MaxInt: false} {
		c := cache.New(p, frames)
		if (c != nil) != is {
			t.Errorf("New(p, %d): a cache: %v, want %v", frames, c != nil, is)
		}
		if c != nil {
			same(t, "State", c.State(), api.CacheState{Frames: frames})
		}
		same(t, "New(nil, ..) is nil", cache.New(nil, frames) == nil, true)
	}
	asked(t, p, 0, 0)
}

// P4.1: the device is not asked: neither one that is armed nor one that is down is seen.
func TestNewAsksNothing(t *testing.T) {
	p := device(t, 4)
	p.Write(1, page(50))
	p.Arm(0, api.Fall{})
	c := made(t, p, 2)
	same(t, "Up", p.Up(), true)
	same(t, "Loose", p.Loose(), 1)
	asked(t, p, 0, 1)
	has(t, c, 0, 0, 0)
	p.Crash(api.Fall{})
	c = made(t, p, 2)
	refusesGet(t, c, 0, api.ErrDown)
	p.Start()
	gets(t, c, 0, 1)
}

// P4.2, P4.7: a page is read once; held, it is a hit and the device is not asked.
func TestGet(t *testing.T) {
	p, c := both(t, 8, 3)
	gets(t, c, 5, 6)
	has(t, c, 1, 0, 0)
	counted(t, c, 0, 1, 0)
	asked(t, p, 1, 0)
	for k := range 3 {
		gets(t, c, 5, 6)
		counted(t, c, k+1, 1, 0)
		asked(t, p, 1, 0)
	}
	gets(t, c, 0, 1)
	gets(t, c, 7, 8)
	has(t, c, 3, 0, 0)
	counted(t, c, 3, 3, 0)
	asked(t, p, 3, 0)
	keeps(t, p, c, 0, 5, 7)
}

// P4.2: a page whose last write on the device is loose is told as that says.
func TestGetOfWhatIsLoose(t *testing.T) {
	p, c := both(t, 8, 3)
	p.Write(2, page(60))
	gets(t, c, 2, 60)
	same(t, "Loose", p.Loose(), 1)
}

// P4.2, P4.4: a Get or a Pin that the device's Read refuses changes nothing, be frames empty or all of them full.
func TestGetOfNoPage(t *testing.T) {
	for full := range 2 {
		p, c := dirtied(t, 8, 2)
		if full == 0 {
			drops(t, c, 1, api.OK)
		}
		was := look(p, c)
		for _, n := range strange() {
			refusesGet(t, c, n, api.ErrPage)
			pins(t, c, n, api.ErrPage)
			unchanged(t, "behind ErrPage", look(p, c), was)
		}
		p.Crash(api.Fall{})
		was = look(p, c)
		for _, n := range append(strange(), 5) {
			refusesGet(t, c, n, api.ErrDown)
			pins(t, c, n, api.ErrDown)
			unchanged(t, "behind ErrDown", look(p, c), was)
		}
		gets(t, c, 0, 100)
	}
}

// P4.2, R5: where all frames are pinned that is told first, whatever the Read would say, and the device is not read.
func TestPinnedAheadOfRead(t *testing.T) {
	p, c := both(t, 8, 2)
	pins(t, c, 1, api.OK)
	pins(t, c, 3, api.OK)
	was := look(p, c)
	for _, n := range append(strange(), 0, 2, 7) {
		refusesGet(t, c, n, api.ErrPinned)
		pins(t, c, n, api.ErrPinned)
		unchanged(t, "behind ErrPinned", look(p, c), was)
	}
	p.Crash(api.Fall{})
	was = look(p, c)
	for _, n := range append(strange(), 0, 2, 7) {
		refusesGet(t, c, n, api.ErrPinned)
		pins(t, c, n, api.ErrPinned)
		unchanged(t, "behind ErrPinned, down", look(p, c), was)
	}
	gets(t, c, 1, 2)
	pins(t, c, 3, api.OK)
	counted(t, c, 2, 2, 0)
	keeps(t, p, c, 1, 3)
}

// P4.2: pinned pages in some frames only, the others empty: there is room.
func TestPinnedButNotFull(t *testing.T) {
	p, c := both(t, 8, 3)
	pins(t, c, 1, api.OK)
	pins(t, c, 3, api.OK)
	refusesGet(t, c, 8, api.ErrPage)
	puts(t, c, 4, 50, api.OK)
	has(t, c, 3, 1, 2)
	gets(t, c, 5, 6)
	has(t, c, 3, 0, 2)
	counted(t, c, 0, 3, 1)
	tells(t, p, 4, 50)
	keeps(t, p, c, 1, 3, 5)
}

// P4.3, P4.7: a Put neither reads nor counts; what was put is told, of pages held or not.
func TestPut(t *testing.T) {
	p, c := both(t, 8, 3)
	puts(t, c, 0, 50, api.OK)
	has(t, c, 1, 1, 0)
	puts(t, c, 7, 57, api.OK)
	has(t, c, 2, 2, 0)
	puts(t, c, 0, 51, api.OK)
	has(t, c, 2, 2, 0)
	counted(t, c, 0, 0, 0)
	asked(t, p, 0, 0)
	gets(t, c, 0, 51)
	gets(t, c, 7, 57)
	counted(t, c, 2, 0, 0)
	asked(t, p, 0, 0)
	tells(t, p, 0, 1)
	tells(t, p, 7, 8)
	gets(t, c, 3, 4)
	has(t, c, 3, 2, 0)
	puts(t, c, 3, 53, api.OK)
	has(t, c, 3, 3, 0)
	asked(t, p, 1, 0)
	gets(t, c, 3, 53)
	tells(t, p, 3, 4)
	counted(t, c, 3, 1, 0)
}

// P4.3: a Put of the bytes that the page has already makes it dirty all the same.
func TestPutOfTheSame(t *testing.T) {
	p, c := both(t, 8, 1)
	gets(t, c, 2, 3)
	puts(t, c, 2, 3, api.OK)
	has(t, c, 1, 1, 0)
	flushes(t, c, api.OK)
	asked(t, p, 1, 1)
}

// P4.3: the page's number ahead of the bytes, both ahead of the room.
func TestPutRefused(t *testing.T) {
	for pinned := range 2 {
		p, c := dirtied(t, 8, 2)
		for n := range 2 * pinned {
			pins(t, c, n, api.OK)
		}
		was := look(p, c)
		for _, size := range []int{0, 1, 511, 512, 513, 1024} {
			b := make([]byte, size)
			for _, n := range strange() {
				same(t, "Put of no page", c.Put(n, b), api.ErrPage)
			}
			if size != 512 {
				same(t, "Put of a held page", c.Put(1, b), api.ErrSize)
				same(t, "Put of another page", c.Put(5, b), api.ErrSize)
			}
		}
		same(t, "Put of nil", c.Put(5, nil), api.ErrSize)
		if pinned == 1 {
			puts(t, c, 5, 9, api.ErrPinned)
		}
		unchanged(t, "behind refused Puts", look(p, c), was)
		gets(t, c, 1, 101)
		keeps(t, p, c, 0, 1)
	}
}

// P4.3: a page of another size is taken by that size.
func TestOtherPageSizes(t *testing.T) {
	for _, size := range []int{1024, 65536} {
		p := plate.New(size, 4)
		c := made(t, p, 1)
		same(t, "Put, one byte less", c.Put(0, make([]byte, size-1)), api.ErrSize)
		same(t, "Put, one byte more", c.Put(0, make([]byte, size+1)), api.ErrSize)
		b := make([]byte, size)
		b[0], b[size-1] = 5, 6
		same(t, "Put", c.Put(3, b), api.OK)
		same(t, "Put", c.Put(4, b), api.ErrPage)
		got, _ := c.Get(3)
		sameBytes(t, "Get", got, b)
		got, _ = c.Get(2)
		sameBytes(t, "Get", got, make([]byte, size))
		sameBytes(t, "the device", p.Image()[3*size:], b)
	}
}

// P4.3: while the device is down a Put is taken, unless a dirty page would have to go.
func TestPutWhileDown(t *testing.T) {
	p, c := both(t, 8, 2)
	gets(t, c, 0, 1)
	p.Crash(api.Fall{})
	puts(t, c, 0, 50, api.OK)
	puts(t, c, 8, 50, api.ErrPage)
	same(t, "Put of a byte", c.Put(4, []byte{1}), api.ErrSize)
	puts(t, c, 4, 54, api.OK)
	was := look(p, c)
	puts(t, c, 5, 55, api.ErrDown)
	unchanged(t, "behind ErrDown", look(p, c), was)
	puts(t, c, 0, 51, api.OK)
	gets(t, c, 4, 54)
	gets(t, c, 0, 51)
	p.Start()
	puts(t, c, 5, 55, api.OK)
	tells(t, p, 4, 54)
	keeps(t, p, c, 0, 5)

	p, c = both(t, 8, 1)
	gets(t, c, 0, 1)
	p.Crash(api.Fall{})
	puts(t, c, 5, 55, api.OK)
	has(t, c, 1, 1, 0)
	counted(t, c, 0, 1, 1)
	asked(t, p, 1, 0)
}

// P4.4: a Pin is a hit or a miss as a Get is.
func TestPin(t *testing.T) {
	p, c := both(t, 8, 3)
	pins(t, c, 6, api.OK)
	has(t, c, 1, 0, 1)
	counted(t, c, 0, 1, 0)
	asked(t, p, 1, 0)
	pins(t, c, 6, api.OK)
	has(t, c, 1, 0, 1)
	counted(t, c, 1, 1, 0)
	puts(t, c, 2, 50, api.OK)
	pins(t, c, 2, api.OK)
	has(t, c, 2, 1, 2)
	counted(t, c, 2, 1, 0)
	asked(t, p, 1, 0)
	gets(t, c, 6, 7)
	gets(t, c, 2, 50)
}

// P4.4: a page is pinned as often as it was, and not once less; once more is ErrPin.
func TestPinSeveralTimes(t *testing.T) {
	for times := 1; times <= 5; times++ {
		p, c := both(t, 8, 1)
		for range times {
			pins(t, c, 3, api.OK)
			puts(t, c, 3, 70, api.OK)
		}
		for range times {
			has(t, c, 1, 1, 1)
			puts(t, c, 4, 50, api.ErrPinned)
			refusesGet(t, c, 4, api.ErrPinned)
			drops(t, c, 3, api.ErrPinned)
			unpins(t, c, 3, api.OK)
		}
		has(t, c, 1, 1, 0)
		unpins(t, c, 3, api.ErrPin)
		has(t, c, 1, 1, 0)
		counted(t, c, times-1, 1, 0)
		gets(t, c, 4, 5)
		tells(t, p, 3, 70)
		unpins(t, c, 3, api.ErrPin)
	}
}

// P4.4: Unpin of what is not held, not pinned, or no page; it asks the device nothing, and works while that is down.
func TestUnpinRefused(t *testing.T) {
	p, c := both(t, 8, 2)
	gets(t, c, 1, 2)
	puts(t, c, 2, 50, api.OK)
	was := look(p, c)
	for _, n := range append(strange(), 0, 1, 2, 3, 7) {
		unpins(t, c, n, api.ErrPin)
	}
	unchanged(t, "behind ErrPin", look(p, c), was)
	pins(t, c, 1, api.OK)
	p.Crash(api.Fall{})
	unpins(t, c, 0, api.ErrPin)
	unpins(t, c, 1, api.OK)
	unpins(t, c, 1, api.ErrPin)
	has(t, c, 2, 1, 0)
}

// P4.4: a page that went, or was dropped, and comes again has no pin left.
func TestPinsGoWithThePage(t *testing.T) {
	_, c := both(t, 8, 1)
	pins(t, c, 1, api.OK)
	pins(t, c, 1, api.OK)
	unpins(t, c, 1, api.OK)
	unpins(t, c, 1, api.OK)
	gets(t, c, 2, 3)
	pins(t, c, 1, api.OK)
	unpins(t, c, 1, api.OK)
	unpins(t, c, 1, api.ErrPin)
	drops(t, c, 1, api.OK)
	gets(t, c, 1, 2)
	unpins(t, c, 1, api.ErrPin)
	has(t, c, 1, 0, 0)
}

// P4.3, P4.4: a Put of a pinned page leaves its pins as they are.
func TestPutOfAPinnedPage(t *testing.T) {
	p, c := both(t, 8, 2)
	pins(t, c, 0, api.OK)
	pins(t, c, 0, api.OK)
	puts(t, c, 0, 40, api.OK)
	has(t, c, 1, 1, 1)
	unpins(t, c, 0, api.OK)
	has(t, c, 1, 1, 1)
	unpins(t, c, 0, api.OK)
	unpins(t, c, 0, api.ErrPin)
	has(t, c, 1, 1, 0)
	tells(t, p, 0, 1)
}

// P4.5: Drop of a page that is clean, dirty, pinned, not held, or none at all.
func TestDrop(t *testing.T) {
	p, c := both(t, 8, 4)
	gets(t, c, 1, 2)
	puts(t, c, 2, 50, api.OK)
	pins(t, c, 3, api.OK)
	puts(t, c, 4, 54, api.OK)
	pins(t, c, 4, api.OK)
	was := look(p, c)
	drops(t, c, 3, api.ErrPinned)
	drops(t, c, 4, api.ErrPinned)
	for _, n := range append(strange(), 0, 5, 7) {
		drops(t, c, n, api.OK)
	}
	unchanged(t, "behind Drops of nothing", look(p, c), was)
	drops(t, c, 1, api.OK)
	has(t, c, 3, 2, 2)
	drops(t, c, 2, api.OK)
	has(t, c, 2, 1, 2)
	drops(t, c, 2, api.OK)
	counted(t, c, 1, 2, 0)
	asked(t, p, 2, 0)
	gets(t, c, 4, 54)
	gets(t, c, 2, 3)
	gets(t, c, 1, 2)
	asked(t, p, 4, 0)
	has(t, c, 4, 1, 2)
	unpins(t, c, 4, api.OK)
	drops(t, c, 4, api.OK)
	flushes(t, c, api.OK)
	asked(t, p, 4, 0)
	gets(t, c, 4, 5)
}

// P4.5: Drop needs no device, and the frame is empty then.
func TestDropWhileDown(t *testing.T) {
	p, c := dirtied(t, 8, 2)
	p.Crash(api.Fall{})
	puts(t, c, 5, 55, api.ErrDown)
	drops(t, c, 0, api.OK)
	puts(t, c, 5, 55, api.OK)
	counted(t, c, 0, 0, 0)
	p.Start()
	gets(t, c, 1, 101)
	gets(t, c, 5, 55)
	keeps(t, p, c, 1, 5)
}

// P4.6: State is the same however often it is asked, and asks the device nothing.
func TestState(t *testing.T) {
	p, c := dirtied(t, 8, 3)
	pins(t, c, 1, api.OK)
	pins(t, c, 1, api.OK)
	gets(t, c, 4, 5)
	want := api.CacheState{Frames: 3, Held: 3, Dirty: 2, Pinned: 1, Hits: 2, Misses: 1, Evicted: 1}
	for range 3 {
		same(t, "State", c.State(), want)
		asked(t, p, 1, 1)
	}
	p.Crash(api.Fall{})
	same(t, "State while down", c.State(), want)
}

// P4.6: what was refused counts neither as a hit nor as a miss, nor as a page that went.
func TestRefusedCallsDoNotCount(t *testing.T) {
	p, c := dirtied(t, 8, 1)
	for range 3 {
		p.Arm(0, api.Fall{Torn: -1})
		refusesGet(t, c, 5, api.ErrDown)
		p.Start()
		p.Arm(0, api.Fall{Torn: -1})
		pins(t, c, 5, api.ErrDown)
		p.Start()
		refusesGet(t, c, 8, api.ErrPage)
		counted(t, c, 0, 0, 0)
	}
	pins(t, c, 0, api.OK)
	pins(t, c, 2, api.ErrPinned)
	counted(t, c, 1, 0, 0)
}

// P4.8: what is told is what was put last, or else what the device has; behind a Flush the device tells the same of every page.
func TestWhatIsTold(t *testing.T) {
	for _, frames := range []int{1, 2, 3, 8, 20} {
		p, c := both(t, 8, frames)
		want := []int{1, 2, 3, 4, 5, 6, 7, 8}
		r := chance()
		for k := range 300 {
			n := r.Intn(8)
			if r.Intn(2) == 0 {
				puts(t, c, n, k, api.OK)
				want[n] = k
			}
			m := r.Intn(8)
			gets(t, c, m, want[m])
			if k%10 == 9 {
				flushes(t, c, api.OK)
				for n := range 8 {
					tells(t, p, n, want[n])
				}
			}
		}
	}
}

// P4.9: held pages are never more than frames, and what is pinned stays held, whatever else is asked for.
func TestPinnedPagesStay(t *testing.T) {
	for frames := 2; frames <= 5; frames++ {
		p, c := both(t, 16, frames)
		for n := range frames - 1 {
			puts(t, c, n, 100+n, api.OK)
			pins(t, c, n, api.OK)
		}
		for k := range 30 {
			gets(t, c, 5+k%11, 6+k%11)
			has(t, c, frames, frames-1, frames-1)
		}
		asked(t, p, 30, 0)
		for n := range frames - 1 {
			gets(t, c, n, 100+n)
		}
		asked(t, p, 30, 0)
	}
}

// P4.1, P4.9: as many frames as there may be are all filled, and not one more.
func TestMostFrames(t *testing.T) {
	p := plate.New(512, 5000)
	c := made(t, p, 4096)
	for n := range 5000 {
		same(t, "Put", c.Put(n, page(n)), api.OK)
		if n == 4095 {
			has(t, c, 4096, 4096, 0)
			asked(t, p, 0, 0)
		}
	}
	has(t, c, 4096, 4096, 0)
	counted(t, c, 0, 0, 904)
	asked(t, p, 0, 904)
	flushes(t, c, api.OK)
	asked(t, p, 0, 5000)
	for _, n := range []int{0, 903, 904, 4095, 4096, 4999} {
		tells(t, p, n, n)
	}
	gets(t, c, 904, 904)
	gets(t, c, 903, 903)
	counted(t, c, 1, 1, 905)
}

// P4.2: more frames than pages: nothing ever goes.
func TestMoreFramesThanPages(t *testing.T) {
	p, c := both(t, 4, 9)
	for k := range 5 {
		for n := range 4 {
			puts(t, c, n, 10*k+n, api.OK)
			gets(t, c, n, 10*k+n)
			pins(t, c, n, api.OK)
		}
	}
	refusesGet(t, c, 4, api.ErrPage)
	pins(t, c, -1, api.ErrPage)
	puts(t, c, 4, 1, api.ErrPage)
	same(t, "State", c.State(), api.CacheState{Frames: 9, Held: 4, Dirty: 4, Pinned: 4, Hits: 40})
	asked(t, p, 0, 0)
}

// Somebody else's writes to a page that is held are not seen till it is held no more; a dirty page is written over them.
func TestWritesOfOthers(t *testing.T) {
	p, c := both(t, 8, 2)
	gets(t, c, 1, 2)
	puts(t, c, 2, 50, api.OK)
	p.Write(1, page(60))
	p.Write(2, page(61))
	p.Write(3, page(62))
	gets(t, c, 1, 2)
	pins(t, c, 1, api.OK)
	gets(t, c, 1, 2)
	gets(t, c, 2, 50)
	unpins(t, c, 1, api.OK)
	flushes(t, c, api.OK)
	tells(t, p, 1, 60)
	tells(t, p, 2, 50)
	gets(t, c, 3, 62)
	gets(t, c, 1, 60)
	p.Write(1, page(70))
	drops(t, c, 1, api.OK)
	gets(t, c, 1, 70)
}

// P4.8: what a fall leaves on the device is not seen of a page that is held either.
func TestFallBelow(t *testing.T) {
	p, c := both(t, 8, 2)
	puts(t, c, 1, 50, api.OK)
	flushes(t, c, api.OK)
	p.Crash(api.Fall{Torn: -1})
	tells(t, p, 1, 2)
	has(t, c, 1, 0, 0)
	gets(t, c, 1, 50)
	p.Start()
	flushes(t, c, api.OK)
	tells(t, p, 1, 2)
	drops(t, c, 1, api.OK)
	gets(t, c, 1, 2)
}

// R6: two caches on two devices have nothing in common.
func TestTwoDevices(t *testing.T) {
	p, c := both(t, 8, 1)
	q, d := both(t, 8, 2)
	puts(t, c, 1, 50, api.OK)
	puts(t, d, 1, 60, api.OK)
	pins(t, d, 1, api.OK)
	gets(t, c, 2, 3)
	gets(t, d, 2, 3)
	tells(t, p, 1, 50)
	tells(t, q, 1, 2)
	gets(t, d, 1, 60)
	gets(t, c, 1, 50)
	p.Crash(api.Fall{})
	flushes(t, d, api.OK)
	refusesGet(t, c, 3, api.ErrDown)
	tells(t, q, 1, 60)
	same(t, "the first", c.State(), api.CacheState{Frames: 1, Held: 1, Misses: 2, Evicted: 2})
	same(t, "the second", d.State(), api.CacheState{Frames: 2, Held: 2, Pinned: 1, Hits: 2, Misses: 1})
	asked(t, p, 2, 1)
	asked(t, q, 1, 1)
}

// R6: two caches on one device meet there alone.
func TestTwoCachesOnOneDevice(t *testing.T) {
	p := device(t, 8)
	c, d := made(t, p, 2), made(t, p, 2)
	puts(t, c, 1, 50, api.OK)
	gets(t, d, 1, 2)
	flushes(t, d, api.OK)
	asked(t, p, 1, 0)
	flushes(t, c, api.OK)
	tells(t, p, 1, 50)
	gets(t, d, 1, 2)
	pins(t, c, 1, api.OK)
	unpins(t, d, 1, api.ErrPin)
	drops(t, d, 1, api.OK)
	gets(t, d, 1, 50)
	puts(t, d, 1, 60, api.OK)
	gets(t, c, 1, 50)
	flushes(t, d, api.OK)
	flushes(t, c, api.OK)
	tells(t, p, 1, 60)
	asked(t, p, 2, 2)
	same(t, "the first", c.State(), api.CacheState{Frames: 2, Held: 1, Pinned: 1, Hits: 2})
	same(t, "the second", d.State(), api.CacheState{Frames: 2, Held: 1, Hits: 1, Misses: 2})
}
