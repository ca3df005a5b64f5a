package plate_test

import (
	"fmt"
	"math"
	"testing"

	"espalier/api"
	"espalier/plate"
)

// P3.1: which numbers a device may have.
func TestNewTakesTheNumbersOfADevice(t *testing.T) {
	for _, x := range []struct{ page, pages int }{
		{512, 4}, {512, 5}, {512, 65535}, {512, 65536},
		{1024, 4}, {1024, 65535}, {1024, 65536}, // 67108864 bytes
		{2048, 32768}, {4096, 16384}, {8192, 8192}, {16384, 4096}, {32768, 2048},
		{65536, 4}, {65536, 1023}, {65536, 1024},
	} {
		what := fmt.Sprintf("New(%d, %d)", x.page, x.pages)
		p := plate.New(x.page, x.pages)
		if p == nil {
			t.Errorf("%s answers nil", what)
			continue
		}
		same(t, what+": Page", p.Page(), x.page)
		same(t, what+": Pages", p.Pages(), x.pages)
		same(t, what+": Up", p.Up(), true)
		reads(t, p, 0, sheet(x.page, 0))
		reads(t, p, x.pages-1, sheet(x.page, 0))
		refusesRead(t, p, x.pages, api.ErrPage)
	}
}

// P3.1
func TestNewRefusesOtherNumbers(t *testing.T) {
	for _, x := range []struct{ page, pages int }{
		{512, 3}, {512, 2}, {512, 1}, {512, 0}, {512, -1}, {512, -4}, {512, 65537}, {512, 1 << 17},
		{1024, 3}, {1024, 65537}, {65536, 3}, {65536, 1025}, {65536, 65536}, {65536, 65537},
		{2048, 32769}, {4096, 16385}, {8192, 8193}, {16384, 4097}, {32768, 2049},
		{0, 4}, {1, 4}, {2, 4}, {256, 4}, {511, 4}, {513, 4}, {500, 4}, {768, 4}, {1000, 4}, {1023, 4}, {1025, 4}, {65535, 4}, {65537, 4}, {131072, 4}, {1 << 30, 4},
		{-1, 4}, {-512, 4}, {-512, -4}, {512, math.MinInt}, {512, math.MaxInt}, {math.MinInt, 4}, {math.MaxInt, 4}, {math.MinInt, math.MinInt}, {math.MaxInt, math.MaxInt}, {0, 0}, {0, math.MaxInt},
		{512, 1 << 55}, {512, 1<<55 + 4}, {65536, 1 << 48}, {65536, 1<<48 + 4}, {1 << 32, 1 << 32}, {1 << 62, 4}, {1 << 62, 8}, {512, 1 << 32}, {512, 1<<32 + 4},
	} {
		if plate.New(x.page, x.pages) != nil {
			t.Errorf("New(%d, %d) answers a device", x.page, x.pages)
		}
	}
}

// P3.1: a new device is zeros, up, and not armed.
func TestNewIsOfZeros(t *testing.T) {
	p := made(t)
	stands(t, p, true, 0, make([]byte, 2048), make([]byte, 2048))
	counted(t, p, 0, 0, 0)
	for range 3 {
		writes(t, p, 1, page(9), api.OK)
		syncs(t, p, api.OK)
	}
	same(t, "Up", p.Up(), true)
}

// P3.1: which images a device may have.
func TestLoadTakesWholePages(t *testing.T) {
	for _, x := range []struct{ bytes, page int }{
		{2048, 512}, {2560, 512}, {512 * 65535, 512}, {512 * 65536, 512},
		{4096, 1024}, {4096, 512}, {api.MaxBytes, 1024}, {api.MaxBytes, 65536}, {4 * 65536, 65536}, {api.MaxBytes - 65536, 65536},
	} {
		what := fmt.Sprintf("Load(%d bytes, %d)", x.bytes, x.page)
		image := make([]byte, x.bytes)
		image[0], image[x.bytes-1], image[x.page] = 1, 2, 3
		p, e := plate.Load(image, x.page)
		same(t, what, e, api.OK)
		if p == nil {
			t.Errorf("%s answers nil", what)
			continue
		}
		same(t, what+": Page", p.Page(), x.page)
		same(t, what+": Pages", p.Pages(), x.bytes/x.page)
		stands(t, p, true, 0, image, image)
		counted(t, p, 0, 0, 0)
	}
}

// P3.1
func TestLoadRefusesOtherImages(t *testing.T) {
	for _, x := range []struct{ bytes, page int }{
		{0, 512}, {1, 512}, {511, 512}, {512, 512}, {1536, 512}, {2047, 512}, {2049, 512}, {2559, 512}, {3072, 1024}, {3 * 65536, 65536},
		{512 * 65537, 512}, {512*65536 + 1, 512}, {1024 * 65537, 1024}, {api.MaxBytes, 512}, {api.MaxBytes + 65536, 65536}, {api.MaxBytes + 1, 65536},
		{2048, 0}, {2048, 1}, {2048, 256}, {2048, 511}, {2048, 513}, {2052, 513}, {4096, 768}, {3072, 768}, {2048, -1}, {2048, -512}, {0, 0}, {0, -512},
		{4 * 131072, 131072}, {2048, math.MaxInt}, {2048, math.MinInt}, {2048, 1 << 62}, {0, 1 << 62},
	} {
		p, e := plate.Load(make([]byte, x.bytes), x.page)
		same(t, fmt.Sprintf("Load(%d bytes, %d)", x.bytes, x.page), e, api.ErrImage)
		if p != nil {
			t.Errorf("Load(%d bytes, %d) answers a device beside the error", x.bytes, x.page)
		}
	}
	for _, image := range [][]byte{nil, {}} {
		p, e := plate.Load(image, 512)
		same(t, "Load of nothing", e, api.ErrImage)
		same(t, "Load of nothing answers nil", p == nil, true)
	}
}

// P3.1: a loaded device's bytes are safe, and it is not armed.
func TestLoadedBytesAreSafe(t *testing.T) {
	image := pages(page(1), page(2, 3), page(4), page(5))
	p, e := plate.Load(image, 512)
	same(t, "Load", e, api.OK)
	reads(t, p, 1, page(2, 3))
	writes(t, p, 1, page(9), api.OK)
	syncs(t, p, api.OK)
	syncs(t, p, api.OK)
	writes(t, p, 3, page(8), api.OK)
	p.Crash(api.Fall{})
	fell(t, p, page(1), page(9), page(4), page(5))
}

// P3.1, P3.8: what Image and Safe tell makes a device again.
func TestLoadOfAnImage(t *testing.T) {
	p := made(t)
	writes(t, p, 2, page(1), api.OK)
	syncs(t, p, api.OK)
	writes(t, p, 2, page(2), api.OK)
	seen, _ := plate.Load(p.Image(), 512)
	reads(t, seen, 2, page(2))
	safe, _ := plate.Load(p.Safe(), 512)
	reads(t, safe, 2, page(1))
}

// P3.2
func TestReadRefuses(t *testing.T) {
	p := made(t)
	for _, n := range []int{-1, -2, 4, 5, math.MinInt, math.MaxInt, 1 << 32, 1 << 55, 1 << 56} {
		refusesRead(t, p, n, api.ErrPage)
	}
	counted(t, p, 0, 0, 0)
	p.Crash(api.Fall{})
	for _, n := range []int{0, 3, 4, -1} {
		refusesRead(t, p, n, api.ErrDown)
	}
	counted(t, p, 0, 0, 0)
	p.Start()
	refusesRead(t, p, 4, api.ErrPage)
	reads(t, p, 3, zero)
}

// P3.2, P3.3: a page is read as the last loose write to it says, else as its safe bytes.
func TestReadTellsTheLastWrite(t *testing.T) {
	p := made(t)
	reads(t, p, 1, zero)
	writes(t, p, 1, page(1), api.OK)
	reads(t, p, 1, page(1))
	writes(t, p, 2, page(2), api.OK)
	reads(t, p, 1, page(1))
	reads(t, p, 2, page(2))
	writes(t, p, 1, page(3), api.OK)
	reads(t, p, 1, page(3))
	syncs(t, p, api.OK)
	reads(t, p, 1, page(3))
	writes(t, p, 1, page(4), api.OK)
	reads(t, p, 1, page(4))
	reads(t, p, 0, zero)
	reads(t, p, 3, zero)
	stands(t, p, true, 1, pages(zero, page(3), page(2), zero), pages(zero, page(4), page(2), zero))
}

// P3.3: which error comes first, and that a refused write does nothing.
func TestWriteRefuses(t *testing.T) {
	p := made(t)
	writes(t, p, 1, page(1), api.OK)
	for _, n := range []int{-1, 4, math.MinInt, math.MaxInt} {
		writes(t, p, n, page(2), api.ErrPage)
		writes(t, p, n, page(2)[:511], api.ErrPage)
		writes(t, p, n, nil, api.ErrPage)
	}
	for _, size := range []int{0, 1, 256, 511, 513, 1024, 2048} {
		writes(t, p, 0, make([]byte, size), api.ErrSize)
		writes(t, p, 1, make([]byte, size), api.ErrSize)
	}
	writes(t, p, 0, nil, api.ErrSize)
	stands(t, p, true, 1, make([]byte, 2048), pages(zero, page(1), zero, zero))
	counted(t, p, 0, 1, 0)
	p.Crash(api.Fall{Torn: -1, Keep: []int{0}})
	writes(t, p, 0, page(3), api.ErrDown)
	writes(t, p, 4, page(3), api.ErrDown)
	writes(t, p, 0, nil, api.ErrDown)
	fell(t, p, zero, page(1), zero, zero)
	counted(t, p, 0, 1, 0)
}

// P3.3: pages of the greatest size, at the ends of the greatest devices.
func TestWriteOfGreatPages(t *testing.T) {
	for _, x := range []struct{ page, pages int }{{65536, 1024}, {512, 65536}, {1024, 65536}} {
		p := plate.New(x.page, x.pages)
		for _, n := range []int{0, x.pages / 2, x.pages - 1} {
			writes(t, p, n, sheet(x.page, 7, byte(n+1), 9), api.OK)
		}
		writes(t, p, x.pages, sheet(x.page, 1), api.ErrPage)
		writes(t, p, 0, make([]byte, x.page-1), api.ErrSize)
		writes(t, p, 0, make([]byte, x.page+1), api.ErrSize)
		image := p.Image()
		same(t, "Image's bytes", len(image), x.page*x.pages)
		syncs(t, p, api.OK)
		for _, n := range []int{0, x.pages / 2, x.pages - 1} {
			reads(t, p, n, sheet(x.page, 7, byte(n+1), 9))
		}
		reads(t, p, 1, sheet(x.page, 0))
		sameBytes(t, "Safe", p.Safe(), image)
	}
}

// P3.4
func TestSyncMakesSafe(t *testing.T) {
	p := made(t)
	syncs(t, p, api.OK)
	stands(t, p, true, 0, make([]byte, 2048), make([]byte, 2048))
	writes(t, p, 0, page(1), api.OK)
	writes(t, p, 3, page(2), api.OK)
	writes(t, p, 0, page(3), api.OK)
	writes(t, p, 0, page(4, 5), api.OK)
	all := pages(page(4, 5), zero, zero, page(2))
	stands(t, p, true, 4, make([]byte, 2048), all)
	syncs(t, p, api.OK)
	stands(t, p, true, 0, all, all)
	syncs(t, p, api.OK)
	stands(t, p, true, 0, all, all)
	p.Crash(api.Fall{Keep: []int{0, 1, 2, 3}})
	fell(t, p, page(4, 5), zero, zero, page(2))
	syncs(t, p, api.ErrDown)
	fell(t, p, page(4, 5), zero, zero, page(2))
	counted(t, p, 0, 4, 3)
}

// P3.8: of a device that is up with nothing loose, with something loose, and down.
func TestImageAndSafe(t *testing.T) {
	p := made(t)
	writes(t, p, 1, page(1), api.OK)
	stands(t, p, true, 1, make([]byte, 2048), pages(zero, page(1), zero, zero))
	writes(t, p, 1, page(2), api.OK)
	stands(t, p, true, 2, make([]byte, 2048), pages(zero, page(2), zero, zero))
	syncs(t, p, api.OK)
	writes(t, p, 0, page(3), api.OK)
	writes(t, p, 3, page(4), api.OK)
	stands(t, p, true, 2, pages(zero, page(2), zero, zero), pages(page(3), page(2), zero, page(4)))
	p.Crash(api.Fall{Keep: []int{1}, Torn: 0, At: 10})
	torn := page(0)
	copy(torn, page(3)[:10])
	fell(t, p, torn, page(2), zero, page(4))
	p.Start()
	left := pages(torn, page(2), zero, page(4))
	stands(t, p, true, 0, left, left)
}

// P3.9: what is counted, and what is not.
func TestCounts(t *testing.T) {
	p := made(t)
	p.Image()
	p.Safe()
	p.Loose()
	p.Up()
	p.Page()
	p.Pages()
	p.Counts()
	p.Start()
	p.Arm(5, api.Fall{})
	counted(t, p, 0, 0, 0)
	reads(t, p, 0, zero)
	counted(t, p, 1, 0, 0)
	refusesRead(t, p, 4, api.ErrPage)
	counted(t, p, 1, 0, 0)
	writes(t, p, 0, page(1), api.OK)
	counted(t, p, 1, 1, 0)
	writes(t, p, 4, page(1), api.ErrPage)
	writes(t, p, 0, nil, api.ErrSize)
	counted(t, p, 1, 1, 0)
	syncs(t, p, api.OK)
	counted(t, p, 1, 1, 1)
	syncs(t, p, api.OK)
	reads(t, p, 0, page(1))
	counted(t, p, 2, 1, 2)
	p.Arm(0, api.Fall{})
	writes(t, p, 0, page(2), api.ErrDown)
	counted(t, p, 2, 2, 2)
	writes(t, p, 0, page(2), api.ErrDown)
	syncs(t, p, api.ErrDown)
	refusesRead(t, p, 0, api.ErrDown)
	counted(t, p, 2, 2, 2)
	p.Start()
	counted(t, p, 2, 2, 2)
	p.Arm(0, api.Fall{})
	syncs(t, p, api.ErrDown)
	counted(t, p, 2, 2, 3)
	p.Start()
	p.Crash(api.Fall{})
	p.Image()
	p.Safe()
	counted(t, p, 2, 2, 3)
}
