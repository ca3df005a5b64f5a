package ink

import "espalier/api"

// What stands behind a 00 in ordered bytes. The end is the lesser one, so that a text stands ahead of those that it begins.
const (
	zeroMark = 0xff
	endMark  = 0x01
)

// Ordered writes bytes so that what is written sorts as they do, and none begins another; ReadOrdered reads them.
func Ordered(b []byte) []byte {
	out := make([]byte, 0, len(b)+2)
	for _, c := range b {
		out = append(out, c)
		if c == 0 {
			out = append(out, zeroMark)
		}
	}
	return append(out, 0, endMark)
}

func ReadOrdered(b []byte, at int) ([]byte, int, api.Errno) {
	if !isPlace(b, at) {
		return nil, 0, api.ErrArg
	}
	var out []byte
	for i := at; i < len(b); i++ {
		if b[i] != 0 {
			out = append(out, b[i])
			continue
		}
		i++
		if i == len(b) {
			break
		}
		switch b[i] {
		case zeroMark:
			out = append(out, 0)
		case endMark:
			return out, i + 1, api.OK
		default:
			return nil, 0, api.ErrForm
		}
	}
	return nil, 0, api.ErrShort
}

// Common tells how many bytes all the texts begin with alike.
func Common(texts ...[]byte) int {
	if len(texts) == 0 {
		return 0
	}
	n := len(texts[0])
	for _, text := range texts[1:] {
		n = alike(texts[0][:n], text)
	}
	return n
}

func alike(a, b []byte) int {
	n := min(len(a), len(b))
	for i := range n {
		if a[i] != b[i] {
			return i
		}
	}
	return n
}

// Between is the shortest beginning of b that lies behind a.
func Between(a, b []byte) ([]byte, api.Errno) {
	n := alike(a, b)
	if n == len(b) || n < len(a) && a[n] > b[n] {
		return nil, api.ErrArg
	}
	return cloned(b[:n+1]), api.OK
}

// Behind is the least text behind all that begin with b; false: there is none.
func Behind(b []byte) ([]byte, bool) {
	n := len(b)
	for n > 0 && b[n-1] == 0xff {
		n--
	}
	if n == 0 {
		return nil, false
	}
	out := cloned(b[:n])
	out[n-1]++
	return out, true
}

func cloned(b []byte) []byte {
	out := make([]byte, len(b))
	copy(out, b)
	return out
}
