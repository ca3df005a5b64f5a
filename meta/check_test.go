package meta_test

import (
	"fmt"
	"math"
	"testing"

	"espalier/api"
	"espalier/meta"
)

// wide is a meta in which each field may go from its least to its greatest value, as far as the others let it.
func wide() api.Meta {
	return api.Meta{Engine: 2, Page: 4096, Txn: 1000, Root: 500, Count: 3, Free: 400, Listed: 30, High: 65536}
}

// P5.1: each field at its least and its greatest, one below and one above, and far outside.
func TestCheckAtEachFieldsEnds(t *testing.T) {
	for _, c := range []struct {
		name        string
		least, most int
	}{
		{"Engine", 1, 2},
		{"Page", 512, 65536},
		{"Txn", 0, 1099511627776},
		{"Root", 2, 65535},
		{"Count", 1, 256},
		{"Free", 2, 65535},
		{"Listed", 0, 65534},
		{"High", 501, 65536},
	} {
		for _, n := range []int{c.least, c.most} {
			takes(t, fmt.Sprint(c.name, " ", n), but(t, wide(), c.name, n))
		}
		for _, n := range []int{c.least - 1, c.most + 1, 2 * c.most, -c.least, -c.most, -1, -2, -512, math.MinInt, math.MinInt + 1, math.MinInt + 2, math.MinInt32, math.MaxInt32, 1 << 32, 1<<32 + c.least, 1<<56 + c.least, math.MaxInt, math.MaxInt - 1} {
			// 0 is no page's number, but means that there is none; 0 is a Txn and a Listed.
			if n < c.least || n > c.most {
				refuses(t, fmt.Sprint(c.name, " ", n), but(t, wide(), c.name, n))
			}
		}
	}
}

// P5.1: Engine is one of the two.
func TestCheckEngine(t *testing.T) {
	for n := -3; n <= 259; n++ {
		m := but(t, sample(), "Engine", n)
		if n == api.Plain || n == api.Packed {
			takes(t, fmt.Sprint("Engine ", n), m)
		} else {
			refuses(t, fmt.Sprint("Engine ", n), m)
		}
	}
}

// P5.1: Page is a power of two, and not too small or too great a one.
func TestCheckPage(t *testing.T) {
	for n := 1; n > 0; n *= 2 {
		what := fmt.Sprint("Page ", n)
		if n >= 512 && n <= 65536 {
			takes(t, what, but(t, sample(), "Page", n))
		} else {
			refuses(t, what, but(t, sample(), "Page", n))
		}
		for _, beside := range []int{n - 1, n + 1, n + n/2, -n} {
			if beside&(beside-1) != 0 {
				refuses(t, fmt.Sprint("Page ", beside), but(t, sample(), "Page", beside))
			}
		}
	}
	refuses(t, "Page 0", but(t, sample(), "Page", 0))
	for n := 513; n < 1024; n++ {
		same(t, fmt.Sprint("Page ", n), meta.Check(but(t, sample(), "Page", n)), api.ErrArg)
	}
	for n := 32769; n < 65536; n++ {
		same(t, fmt.Sprint("Page ", n), meta.Check(but(t, sample(), "Page", n)), api.ErrArg)
	}
}

// P5.1: High is 2 at least, and above every page that is named.
func TestCheckHigh(t *testing.T) {
	for _, n := range []int{2, 3, 65535, 65536} {
		takes(t, fmt.Sprint("High ", n), but(t, empty(1, 512), "High", n))
	}
	for _, n := range []int{1, 0, -1, 65537, math.MinInt, math.MaxInt} {
		refuses(t, fmt.Sprint("High ", n), but(t, empty(1, 512), "High", n))
	}
	// The sample's Root is 5, its Free 3: with 5 the Root, with 3 the Free too is not below High.
	for n := 3; n <= 5; n++ {
		refuses(t, fmt.Sprint("High ", n), but(t, sample(), "High", n))
	}
	takes(t, "High 6", but(t, sample(), "High", 6))
	refuses(t, "Free at High", api.Meta{Engine: 1, Page: 512, Root: 5, Count: 1, Free: 6, High: 6})
}

// P5.1: Root and Free are 0, or 2 to High - 1.
func TestCheckRootAndFree(t *testing.T) {
	for _, high := range []int{9, 4, 65536} {
		base := api.Meta{Engine: 1, Page: 512, High: high}
		for _, n := range []int{-1, 1, 2, high - 1, high, high + 1, math.MinInt, math.MaxInt} {
			root, free := base, base
			root.Root, root.Count = n, 1
			free.Free, free.Listed = n, 1
			what := fmt.Sprint(n, " below ", high)
			if n == 2 || n == high-1 {
				takes(t, "Root "+what, root)
				takes(t, "Free "+what, free)
			} else {
				refuses(t, "Root "+what, root)
				refuses(t, "Free "+what, free)
			}
		}
	}
}

// P5.1: Root is not Free, unless both are 0.
func TestCheckRootIsNotFree(t *testing.T) {
	takes(t, "both 0", api.Meta{Engine: 1, Page: 512, High: 9})
	for n := 2; n <= 8; n++ {
		refuses(t, fmt.Sprint("both ", n), api.Meta{Engine: 1, Page: 512, Root: n, Count: 1, Free: n, Listed: 1, High: 9})
		takes(t, fmt.Sprint("Root ", n), api.Meta{Engine: 1, Page: 512, Root: n, Count: 1, High: 9})
		takes(t, fmt.Sprint("Free ", n), api.Meta{Engine: 1, Page: 512, Free: n, Listed: 1, High: 9})
	}
	refuses(t, "both 2 of 3", api.Meta{Engine: 1, Page: 512, Root: 2, Count: 1, Free: 2, High: 3})
}

// P5.1: Count is 0 just where Root is 0.
func TestCheckCount(t *testing.T) {
	for _, n := range []int{1, 2, 255, 256} {
		takes(t, fmt.Sprint("Count with a Root ", n), but(t, sample(), "Count", n))
		refuses(t, fmt.Sprint("Count without a Root ", n), but(t, empty(1, 512), "Count", n))
	}
	refuses(t, "Count 0 with a Root", but(t, sample(), "Count", 0))
	refuses(t, "Root 0 with a Count", but(t, sample(), "Root", 0))
	refuses(t, "Count 257", but(t, sample(), "Count", 257))
	refuses(t, "Count -1 without a Root", but(t, empty(1, 512), "Count", -1))
}

// P5.1: Listed is 0 to High - 2, and 0 where Free is 0.
func TestCheckListed(t *testing.T) {
	for _, high := range []int{6, 9, 65536} {
		m := but(t, sample(), "High", high)
		for _, n := range []int{0, 1, high - 3, high - 2} {
			takes(t, fmt.Sprint("Listed ", n, " of ", high), but(t, m, "Listed", n))
		}
		for _, n := range []int{-1, high - 1, high, high + 1} {
			refuses(t, fmt.Sprint("Listed ", n, " of ", high), but(t, m, "Listed", n))
		}
		none := but(t, but(t, m, "Free", 0), "Listed", 0)
		takes(t, "nothing listed without a list", none)
		for _, n := range []int{-1, 1, 2, high - 2} {
			refuses(t, fmt.Sprint("Listed without a list ", n), but(t, none, "Listed", n))
		}
	}
}

// P5.1: the zero meta is none.
func TestCheckOfTheZeroMeta(t *testing.T) { refuses(t, "the zero meta", api.Meta{}) }

// byTheChapter says in the chapter's own order what a meta is.
func byTheChapter(m api.Meta) bool {
	engine := m.Engine == 1 || m.Engine == 2
	power := false
	for n := 512; n <= 65536; n *= 2 {
		power = power || m.Page == n
	}
	txn := m.Txn >= 0 && m.Txn <= 1099511627776
	high := m.High >= 2 && m.High <= 65536
	root := m.Root == 0 || m.Root >= 2 && m.Root <= m.High-1
	free := m.Free == 0 || m.Free >= 2 && m.Free <= m.High-1
	count := m.Count >= 0 && m.Count <= 256 && (m.Count == 0) == (m.Root == 0)
	listed := m.Listed >= 0 && m.Listed <= m.High-2 && (m.Free != 0 || m.Listed == 0)
	apart := m.Root != m.Free || m.Root == 0 && m.Free == 0
	return engine && power && txn && high && root && free && count && listed && apart
}

// P5.1: Check against the chapter's words, for all that is put together of edges.
func TestCheckAgainstTheChapter(t *testing.T) {
	far := []int{math.MinInt, math.MaxInt}
	pages := append([]int{-1, 0, 1, 2, 3, 7, 8, 9, 10}, far...)
	good, bad := 0, 0
	for _, high := range append([]int{0, 1, 2, 3, 4, 9, 65536, 65537}, far...) {
		for _, root := range pages {
			for _, free := range pages {
				for _, listed := range pages {
					for _, count := range append([]int{-1, 0, 1, 256, 257}, far...) {
						m := api.Meta{Engine: 1, Page: 512, Txn: 7, Root: root, Count: count, Free: free, Listed: listed, High: high}
						want := api.ErrArg
						if byTheChapter(m) {
							want = api.OK
							good++
						} else {
							bad++
						}
						if got := meta.Check(m); got != want {
							t.Fatalf("Check(%+v): %d, want %d", m, got, want)
						}
					}
				}
			}
		}
	}
	if good < 500 || bad < 500 {
		t.Errorf("%d metas and %d others are too few", good, bad)
	}
}
