package free

import (
	"math/bits"

	"espalier/api"
)

const wordBits = 64

// A row has one bit for each page that a device may have.
type row struct {
	words [api.MaxPages / wordBits]uint64
}

func (r *row) set(page int, on bool) {
	word, bit := &r.words[page/wordBits], uint64(1)<<(page%wordBits)
	if on {
		*word |= bit
	} else {
		*word &^= bit
	}
}

// least is the first page whose bit is set.
func (r *row) least() (int, bool) {
	for i, word := range r.words {
		if word != 0 {
			return i*wordBits + bits.TrailingZeros64(word), true
		}
	}
	return 0, false
}
