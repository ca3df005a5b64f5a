// Package ink is layer 1: numbers and texts as bytes, and a check sum. See shared/doc/01-ink.md.
package ink

import "espalier/api"

const (
	maxWidth = 8    // the bytes of a uint64
	maxUint  = 10   // the most groups of seven bits that a uint64 needs
	more     = 0x80 // added to a group behind which another one stands
)

// Fixed writes a number's lowest bytes, the highest first; ReadFixed reads them.
func Fixed(n uint64, width int) []byte {
	if !isWidth(width) {
		return nil
	}
	b := make([]byte, width)
	for i := width - 1; i >= 0; i-- {
		b[i] = byte(n)
		n >>= 8
	}
	return b
}

func ReadFixed(b []byte, at, width int) (uint64, api.Errno) {
	if !isWidth(width) || !isPlace(b, at) {
		return 0, api.ErrArg
	}
	if len(b)-at < width {
		return 0, api.ErrShort
	}
	n := uint64(0)
	for _, c := range b[at : at+width] {
		n = n<<8 | uint64(c)
	}
	return n, api.OK
}

// Uint writes a number in as few bytes as it needs; ReadUint reads one: it, and the place behind it.
func Uint(n uint64) []byte {
	b := make([]byte, 0, maxUint)
	for n >= more {
		b = append(b, byte(n)|more)
		n >>= 7
	}
	return append(b, byte(n))
}

func ReadUint(b []byte, at int) (uint64, int, api.Errno) {
	if !isPlace(b, at) {
		return 0, 0, api.ErrArg
	}
	n := uint64(0)
	for i, c := range b[at:] {
		// Nine groups hold 63 bits, so the tenth has room for one bit and for no group behind it.
		if i == maxUint-1 && c > 1 {
			return 0, 0, api.ErrBig
		}
		n |= uint64(c&^more) << (7 * uint(i))
		if c >= more {
			continue
		}
		if c == 0 && i > 0 {
			return 0, 0, api.ErrForm
		}
		return n, at + i + 1, api.OK
	}
	return 0, 0, api.ErrShort
}

func isWidth(width int) bool { return width >= 1 && width <= maxWidth }

func isPlace(b []byte, at int) bool { return at >= 0 && at <= len(b) }
