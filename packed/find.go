package packed

import (
	"bytes"
	"sort"
)

// Find tells where a key stands, or would stand; Near the same, with a guess.
func (p *Page) Find(key []byte) (int, bool) { return p.among(0, p.Len(), p.against(key)) }

func (p *Page) Near(key []byte, hint int) (int, bool) {
	order := p.against(key)
	// Those below low stand ahead of the key, those from high on do not.
	low, high := 0, p.Len()
	at := min(max(hint, low), high-1)
	// Away from the hint in steps that grow, until the key is passed.
search:
	for step := 1; low < high; step *= 2 {
		switch o := order(at); {
		case o < 0:
			low = at + 1
			if high < p.Len() {
				break search
			}
			at = min(at+step, high-1)
		case o > 0:
			high = at
			if low > 0 {
				break search
			}
			at = max(at-step, low)
		default:
			return at, true
		}
	}
	return p.among(low, high, order)
}

// among is Find, if those below low stand ahead of the key, and those from high on do not.
func (p *Page) among(low, high int, order func(i int) int) (int, bool) {
	i := low + sort.Search(high-low, func(n int) bool { return order(low+n) >= 0 })
	return i, i < p.Len() && order(i) == 0
}

// against answers a function that tells how the cell i stands to the key: below 0, if ahead of it; 0, if that is its key; above 0, if behind it.
func (p *Page) against(key []byte) func(i int) int {
	rest, begins := bytes.CutPrefix(key, p.prefix)
	return func(i int) int {
		switch {
		case standsWhole(p.kind, i):
			return bytes.Compare(p.rest(i), key)
		case begins:
			return bytes.Compare(p.rest(i), rest)
		}
		// A key that does not begin with the prefix stands to all that do as it stands to the prefix.
		return bytes.Compare(p.prefix, key)
	}
}
