package plate_test

import (
	"fmt"
	"math"
	"testing"

	"espalier/api"
	"espalier/plate"
)

// P3.5: so many acts are still done, Writes and Syncs alike; the next one falls.
func TestArmCountsActs(t *testing.T) {
	for acts := range 7 {
		p := made(t)
		p.Arm(acts, api.Fall{Torn: -1})
		for i := range acts {
			if i%2 == 0 {
				writes(t, p, 1, page(byte(i+1)), api.OK)
			} else {
				syncs(t, p, api.OK)
			}
			same(t, "Up", p.Up(), true)
		}
		if acts%2 == 0 {
			writes(t, p, 1, page(99), api.ErrDown)
		} else {
			syncs(t, p, api.ErrDown)
		}
		same(t, "Up behind the fall", p.Up(), false)
		safe := acts / 2 * 2
		if safe > 0 {
			safe--
		}
		fell(t, p, zero, page(byte(safe)), zero, zero)
	}
}

// P3.5: what is refused is no act, nor is a Read, nor what tells how the device stands.
func TestArmCountsNothingElse(t *testing.T) {
	p := made(t)
	p.Arm(1, api.Fall{Torn: -1})
	for range 3 {
		reads(t, p, 0, zero)
		refusesRead(t, p, 4, api.ErrPage)
		writes(t, p, -1, page(1), api.ErrPage)
		writes(t, p, 0, page(1)[:511], api.ErrSize)
		p.Image()
		p.Safe()
		p.Start()
		p.Counts()
	}
	writes(t, p, 0, page(1), api.OK)
	reads(t, p, 0, page(1))
	writes(t, p, 4, page(1), api.ErrPage)
	writes(t, p, 0, nil, api.ErrSize)
	same(t, "Up", p.Up(), true)
	syncs(t, p, api.ErrDown)
	fell(t, p, zero, zero, zero, zero)
}

// P3.5: armed with 0, a refused call does not fall, but the first act does.
func TestArmWithNoActs(t *testing.T) {
	p := made(t)
	p.Arm(0, api.Fall{Keep: []int{0}, Torn: -1})
	writes(t, p, 4, page(1), api.ErrPage)
	writes(t, p, 0, nil, api.ErrSize)
	same(t, "Up", p.Up(), true)
	writes(t, p, 0, page(1), api.ErrDown)
	fell(t, p, page(1), zero, zero, zero)
	counted(t, p, 0, 1, 0)
}

// P3.5: below 0 it is armed no more, however far below.
func TestArmBelowNothing(t *testing.T) {
	for _, acts := range []int{-1, -2, math.MinInt} {
		p := made(t)
		p.Arm(acts, api.Fall{})
		syncs(t, p, api.OK)
		p.Arm(0, api.Fall{})
		p.Arm(acts, api.Fall{Keep: []int{0}})
		for range 3 {
			writes(t, p, 0, page(1), api.OK)
			syncs(t, p, api.OK)
		}
		p.Arm(2, api.Fall{})
		writes(t, p, 0, page(1), api.OK)
		p.Arm(acts, api.Fall{})
		for range 5 {
			syncs(t, p, api.OK)
		}
	}
}

// P3.5: a later Arm takes the earlier one's place, its count and its fall.
func TestArmAgain(t *testing.T) {
	p := made(t)
	p.Arm(0, api.Fall{Keep: []int{0}, Torn: -1})
	p.Arm(2, api.Fall{Keep: []int{1}, Torn: -1})
	writes(t, p, 0, page(1), api.OK)
	writes(t, p, 1, page(2), api.OK)
	writes(t, p, 2, page(3), api.ErrDown)
	fell(t, p, zero, page(2), zero, zero)

	p = made(t)
	p.Arm(5, api.Fall{Keep: []int{1}, Torn: 1, At: 3})
	writes(t, p, 0, page(1), api.OK)
	p.Arm(0, api.Fall{Torn: -1})
	writes(t, p, 1, page(2), api.ErrDown)
	fell(t, p, zero, zero, zero, zero)
}

// P3.5: a great number of acts is never reached here, and does not wrap.
func TestArmFarAway(t *testing.T) {
	p := made(t)
	p.Arm(math.MaxInt, api.Fall{})
	for range 100 {
		syncs(t, p, api.OK)
	}
}

// P3.5: an Arm of a device that is down is nothing: neither armed, nor disarmed.
func TestArmWhileDown(t *testing.T) {
	p := made(t)
	p.Crash(api.Fall{})
	p.Arm(0, api.Fall{})
	p.Arm(1, api.Fall{})
	p.Start()
	for range 3 {
		writes(t, p, 0, page(1), api.OK)
		syncs(t, p, api.OK)
	}
}

// P3.5, P3.6: a fall leaves the device not armed, be it an act's or a Crash's.
func TestNotArmedBehindAFall(t *testing.T) {
	p := made(t)
	p.Arm(0, api.Fall{})
	syncs(t, p, api.ErrDown)
	p.Start()
	syncs(t, p, api.OK)
	syncs(t, p, api.OK)

	p.Arm(1, api.Fall{})
	p.Crash(api.Fall{})
	p.Start()
	for range 4 {
		syncs(t, p, api.OK)
	}
}

// P3.5: the Write in which the power fails is a loose write more: it may stay, whole or torn.
func TestFallInAWrite(t *testing.T) {
	for _, x := range []struct {
		f    api.Fall
		want []byte
	}{
		{api.Fall{Torn: -1}, page(1)},
		{api.Fall{Keep: []int{1}, Torn: -1}, page(3)},
		{api.Fall{Keep: []int{0}, Torn: -1}, page(2)},
		{api.Fall{Keep: []int{0, 1}, Torn: -1}, page(3)},
		{api.Fall{Keep: []int{0, 2}, Torn: -1}, page(2)},
		{api.Fall{Keep: []int{0}, Torn: 1, At: 1}, page(3, 2)},
		{api.Fall{Torn: 1, At: 2}, page(3, 3, 1)},
		{api.Fall{Torn: 2, At: 2}, page(1)},
	} {
		p := made(t)
		writes(t, p, 2, page(1), api.OK)
		syncs(t, p, api.OK)
		p.Arm(1, x.f)
		writes(t, p, 2, page(2), api.OK)
		writes(t, p, 2, page(3), api.ErrDown)
		fell(t, p, zero, zero, x.want, zero)
		counted(t, p, 0, 3, 1)
		p.Start()
		reads(t, p, 2, x.want)
	}
}

// P3.5: the Sync in which the power fails does nothing: what is loose falls as ever.
func TestFallInASync(t *testing.T) {
	for _, x := range []struct {
		f    api.Fall
		want []byte
	}{
		{api.Fall{Torn: -1}, page(1)},
		{api.Fall{}, page(1)},
		{api.Fall{Keep: []int{1}, Torn: -1}, page(3)},
		{api.Fall{Keep: []int{0}, Torn: -1}, page(2)},
		{api.Fall{Torn: 0, At: 3}, page(2, 2, 2, 1)},
		{api.Fall{Torn: 1, At: 3, Keep: []int{0}}, page(3, 3, 3, 2)},
	} {
		p := made(t)
		writes(t, p, 3, page(1), api.OK)
		syncs(t, p, api.OK)
		writes(t, p, 3, page(2), api.OK)
		writes(t, p, 3, page(3), api.OK)
		p.Arm(0, x.f)
		syncs(t, p, api.ErrDown)
		fell(t, p, zero, zero, zero, x.want)
		counted(t, p, 0, 3, 2)
		p.Start()
		reads(t, p, 3, x.want)
	}
}

// three has safe bytes 1, 2, 3, 4 in its pages, and loose writes to pages 1, 2, 1.
func three(t *testing.T) *plate.Plate {
	t.Helper()
	p, e := plate.Load(pages(page(1), page(2), page(3), page(4)), 512)
	if e != api.OK {
		t.Fatal(e)
	}
	writes(t, p, 1, page(10), api.OK)
	writes(t, p, 2, page(20), api.OK)
	writes(t, p, 1, page(30), api.OK)
	return p
}

// P3.6: which of the loose writes stay, and how much of the torn one.
func TestFall(t *testing.T) {
	for _, x := range []struct {
		f        api.Fall
		one, two []byte
	}{
		{api.Fall{}, page(2), page(3)},
		{api.Fall{Torn: -1}, page(2), page(3)},
		{api.Fall{Keep: []int{0}, Torn: -1}, page(10), page(3)},
		{api.Fall{Keep: []int{1}, Torn: -1}, page(2), page(20)},
		{api.Fall{Keep: []int{2}, Torn: -1}, page(30), page(3)},
		{api.Fall{Keep: []int{0, 1, 2}, Torn: -1}, page(30), page(20)},
		// doubled, out of order
		{api.Fall{Keep: []int{2, 1, 0}, Torn: -1}, page(30), page(20)},
		{api.Fall{Keep: []int{2, 0}, Torn: -1}, page(30), page(3)},
		{api.Fall{Keep: []int{0, 0, 1, 0, 1}, Torn: -1}, page(10), page(20)},
		{api.Fall{Keep: []int{2, 0, 2, 0}, Torn: -1}, page(30), page(3)},
		// of no loose write
		{api.Fall{Keep: []int{3}, Torn: -1}, page(2), page(3)},
		{api.Fall{Keep: []int{-1, -3, math.MinInt, math.MaxInt, 3, 1 << 32}, Torn: -1}, page(2), page(3)},
		{api.Fall{Keep: []int{-1, 0, 3, 1, 99}, Torn: -2}, page(10), page(20)},
		// torn
		{api.Fall{Torn: 0, At: 2}, page(10, 10, 2), page(3)},
		{api.Fall{Torn: 1, At: 1}, page(2), page(20, 3)},
		{api.Fall{Torn: 2, At: 3}, page(30, 30, 30, 2), page(3)},
		{api.Fall{Keep: []int{0}, Torn: 2, At: 3}, page(30, 30, 30, 10), page(3)},
		{api.Fall{Keep: []int{2}, Torn: 0, At: 3}, page(30), page(3)},
		{api.Fall{Keep: []int{1, 2}, Torn: 0, At: 2}, page(30), page(20)},
		// torn, and in Keep as well
		{api.Fall{Keep: []int{0}, Torn: 0, At: 2}, page(10, 10, 2), page(3)},
		{api.Fall{Keep: []int{0, 1, 2}, Torn: 2, At: 1}, page(30, 10), page(20)},
		{api.Fall{Keep: []int{1, 0, 1}, Torn: 1, At: 0}, page(10), page(3)},
		{api.Fall{Keep: []int{0, 1, 2}, Torn: 0, At: -5}, page(30), page(20)},
		{api.Fall{Keep: []int{0}, Torn: 0}, page(2), page(3)},
		// Torn of no loose write
		{api.Fall{Keep: []int{0}, Torn: 3, At: 5}, page(10), page(3)},
		{api.Fall{Torn: math.MaxInt, At: 512}, page(2), page(3)},
		{api.Fall{Torn: math.MinInt, At: 512}, page(2), page(3)},
		{api.Fall{Torn: -1, At: 512}, page(2), page(3)},
		{api.Fall{Keep: []int{-1}, Torn: -1, At: 2}, page(2), page(3)},
		{api.Fall{Keep: []int{3}, Torn: 3, At: 2}, page(2), page(3)},
		// At
		{api.Fall{Torn: 1, At: -1}, page(2), page(3)},
		{api.Fall{Torn: 1, At: math.MinInt}, page(2), page(3)},
		{api.Fall{Torn: 1, At: 0}, page(2), page(3)},
		{api.Fall{Torn: 1, At: 512}, page(2), page(20)},
		{api.Fall{Torn: 1, At: 513}, page(2), page(20)},
		{api.Fall{Torn: 1, At: math.MaxInt}, page(2), page(20)},
	} {
		t.Run(fmt.Sprint(x.f), func(t *testing.T) {
			p := three(t)
			p.Crash(x.f)
			fell(t, p, page(1), x.one, x.two, page(4))

			p = three(t)
			p.Arm(0, x.f)
			syncs(t, p, api.ErrDown)
			fell(t, p, page(1), x.one, x.two, page(4))
			p.Start()
			reads(t, p, 1, x.one)
			reads(t, p, 2, x.two)
		})
	}
}

// P3.6: at every place where a write may be torn, both parts are just what they were.
func TestTornAtEachByte(t *testing.T) {
	old, young := page(0), page(0)
	for i := range old {
		old[i], young[i] = byte(i%251), byte(i%241)+100
	}
	for at := -1; at <= 513; at++ {
		p := made(t)
		writes(t, p, 3, old, api.OK)
		syncs(t, p, api.OK)
		writes(t, p, 3, young, api.OK)
		p.Crash(api.Fall{Torn: 0, At: at})
		k := min(max(at, 0), 512)
		fell(t, p, zero, zero, zero, pages(young[:k], old[k:]))
	}
}

// P3.6: the numbers are those of the loose writes, from 0 on anew behind a Sync and behind a fall.
func TestNumbersOfLooseWrites(t *testing.T) {
	p := made(t)
	writes(t, p, 0, page(1), api.OK)
	writes(t, p, 0, page(2), api.OK)
	syncs(t, p, api.OK)
	writes(t, p, 1, page(3), api.OK)
	writes(t, p, 2, page(4), api.OK)
	same(t, "Loose", p.Loose(), 2)
	p.Crash(api.Fall{Keep: []int{0, 2, 3}, Torn: -1})
	fell(t, p, page(2), page(3), zero, zero)
	p.Start()
	writes(t, p, 3, page(5), api.OK)
	writes(t, p, 4, page(6), api.ErrPage)
	writes(t, p, 2, page(7), api.OK)
	p.Crash(api.Fall{Keep: []int{1}, Torn: -1})
	fell(t, p, page(2), page(3), page(7), zero)
}

// P3.6: a Crash with nothing loose changes no byte.
func TestCrashWithNothingLoose(t *testing.T) {
	p := made(t)
	p.Crash(api.Fall{Keep: []int{0}, Torn: 0, At: 5})
	fell(t, p, zero, zero, zero, zero)
	counted(t, p, 0, 0, 0)
}

// P3.6, P3.7: Crash while down is nothing, and so is Start while up, armed or with something loose.
func TestCrashAndStart(t *testing.T) {
	p := three(t)
	same(t, "Up", p.Up(), true)
	p.Start()
	stands(t, p, true, 3, pages(page(1), page(2), page(3), page(4)), pages(page(1), page(30), page(20), page(4)))
	p.Crash(api.Fall{Keep: []int{0}, Torn: -1})
	fell(t, p, page(1), page(10), page(3), page(4))
	p.Crash(api.Fall{Keep: []int{0, 1, 2}, Torn: -1})
	fell(t, p, page(1), page(10), page(3), page(4))
	p.Start()
	left := pages(page(1), page(10), page(3), page(4))
	stands(t, p, true, 0, left, left)
	writes(t, p, 0, page(7), api.OK)
	p.Arm(1, api.Fall{Torn: -1})
	p.Start()
	stands(t, p, true, 1, left, pages(page(7), page(10), page(3), page(4)))
	syncs(t, p, api.OK)
	syncs(t, p, api.ErrDown)
	p.Start()
	p.Start()
	reads(t, p, 0, page(7))
	p.Crash(api.Fall{})
	same(t, "Up", p.Up(), false)
}

// P3.10: whatever stays of what is loose, other pages are as they were, each byte is the safe one or some write's, and what was synced is there.
func TestWhatAFallMayLeave(t *testing.T) {
	r := chance()
	for range 300 {
		p := made(t)
		var may [4][][]byte
		for n := range 4 {
			b := page(byte(r.Intn(256)), byte(r.Intn(256)))
			writes(t, p, n, b, api.OK)
			may[n] = [][]byte{b}
		}
		syncs(t, p, api.OK)
		for range r.Intn(6) {
			n, b := r.Intn(3), page(byte(r.Intn(256)), byte(r.Intn(256)), byte(r.Intn(256)))
			writes(t, p, n, b, api.OK)
			may[n] = append(may[n], b)
		}
		p.Crash(someFall(r))
		image := p.Image()
		for i, got := range image {
			found := false
			for _, b := range may[i/512] {
				found = found || b[i%512] == got
			}
			if !found {
				t.Fatalf("byte %d is %d, which none had there", i, got)
			}
		}
		sameBytes(t, "Safe", p.Safe(), image)
	}
}

// Two devices have nothing in common, be one loaded from the other's image.
func TestTwoDevices(t *testing.T) {
	a := made(t)
	b, _ := plate.Load(a.Image(), 512)
	writes(t, a, 0, page(1), api.OK)
	writes(t, b, 0, page(2), api.OK)
	writes(t, b, 1, page(3), api.OK)
	a.Arm(1, api.Fall{Torn: -1})
	syncs(t, b, api.OK)
	syncs(t, b, api.OK)
	syncs(t, a, api.OK)
	writes(t, b, 3, page(4), api.OK)
	syncs(t, a, api.ErrDown)
	fell(t, a, page(1), zero, zero, zero)
	stands(t, b, true, 1, pages(page(2), page(3), zero, zero), pages(page(2), page(3), zero, page(4)))
	counted(t, a, 0, 1, 2)
	counted(t, b, 0, 3, 2)
	b.Start()
	same(t, "Up", a.Up(), false)
	b.Crash(api.Fall{Keep: []int{0}, Torn: -1})
	a.Start()
	same(t, "Up", b.Up(), false)
	fell(t, b, page(2), page(3), zero, page(4))
}
