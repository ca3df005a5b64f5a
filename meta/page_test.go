package meta_test

import (
	"bytes"
	"fmt"
	"testing"

	"espalier/api"
	"espalier/meta"
)

// P5.1: Encode byte by byte at every size of a page, in both engines.
func TestEncodeByteByByte(t *testing.T) {
	for _, size := range sizes() {
		for engine := 1; engine <= 2; engine++ {
			m := api.Meta{Engine: engine, Page: size, Txn: 0x01020304, Root: 0x0506, Count: 0x0100, Free: 0x0708, Listed: 0x090a, High: 0xfff0}
			b := page(t, m)
			want := raw(t, "01 00 00 00 45 53 50 4C 00 00 00 00 00 00 00 00 01 02 03 04 00 00 05 06 00 00 01 00 00 00 07 08 00 00 09 0A 00 00 FF F0")
			want[1] = byte(engine)
			want[9], want[10] = byte(size>>16), byte(size>>8)
			want = append(want, make([]byte, size-40)...)
			sameBytes(t, fmt.Sprint("a page of ", size), b, summed(want))
			takes(t, fmt.Sprint("a page of ", size), m)
		}
	}
}

// P5.1: the greatest numbers stand in all their bytes.
func TestEncodeOfTheGreatest(t *testing.T) {
	m := api.Meta{Engine: 2, Page: 65536, Txn: 1099511627776, Root: 65535, Count: 256, Free: 65534, Listed: 65534, High: 65536}
	b := page(t, m)
	sameBytes(t, "the greatest", b[:40], raw(t, "01 02 00 00 45 53 50 4C 00 01 00 00 00 00 01 00 00 00 00 00 00 00 FF FF 00 00 01 00 00 00 FF FE 00 00 FF FE 00 01 00 00"))
	takes(t, "the greatest", m)
}

// P5.1, P5.4: what Encode wrote is read back.
func TestDecodeOfWhatEncodeWrote(t *testing.T) {
	r := chance()
	for range 300 {
		m := someMeta(r)
		takes(t, fmt.Sprintf("%+v", m), m)
	}
}

// P5.1: no page has fewer or more bytes than its Page says.
func TestDecodeOfOtherLengths(t *testing.T) {
	refusesPage(t, "nil", nil)
	refusesPage(t, "nothing", []byte{})
	for _, size := range sizes() {
		m := but(t, sample(), "Page", size)
		b := page(t, m)
		for _, n := range []int{0, 1, 2, 7, 8, 39, 40, 43, 44, size / 2, size - 4, size - 1} {
			refusesPage(t, fmt.Sprint("the first ", n, " of ", size), b[:n])
			if n >= 4 {
				refusesPage(t, fmt.Sprint("the first ", n, " of ", size, " with a right sum"), summed(b[:n]))
			}
		}
		for _, n := range []int{1, 4, size, 2 * size} {
			longer := append(page(t, m), make([]byte, n)...)
			refusesPage(t, fmt.Sprint(n, " more than ", size), longer)
			refusesPage(t, fmt.Sprint(n, " more than ", size, " with a right sum"), summed(longer))
		}
		refusesPage(t, "zeros", make([]byte, size))
	}
	whole := page(t, sample())
	for n := range whole {
		refusesPage(t, fmt.Sprint("the first ", n), whole[:n])
	}
}

// P5.1: a page whose Page is a size that may be, but not its own length.
func TestDecodeOfAnotherPagesSize(t *testing.T) {
	for _, size := range sizes() {
		for _, says := range sizes() {
			b := laid(but(t, sample(), "Page", says), size)
			if says != size {
				refusesPage(t, fmt.Sprint(size, " bytes that say ", says), b)
			} else {
				reads(t, fmt.Sprint(size, " bytes"), b, but(t, sample(), "Page", says))
			}
		}
	}
}

// P5.1, P5.4: every byte of a page changed, with the old sum.
func TestDecodeOfAChangedByte(t *testing.T) {
	for _, size := range []int{512, 1024} {
		b := page(t, but(t, sample(), "Page", size))
		for i := range b {
			for _, x := range []byte{1, 0x80, 0xff} {
				b[i] ^= x
				refusesPage(t, fmt.Sprint("byte ", i, " of ", size), b)
				b[i] ^= x
			}
		}
		reads(t, "as it was", b, but(t, sample(), "Page", size))
	}
}

// free are the places whose bytes say something: Engine, Page, and the other numbers.
func free(i int) bool { return i == 1 || i >= 8 && i < 40 }

// P5.1: every byte changed, with a right sum: where nothing is said there is no meta page any more; elsewhere it is one just where what it says then is a meta with pages as long.
func TestDecodeOfAChangedByteWithARightSum(t *testing.T) {
	base := api.Meta{Engine: 1, Page: 512, Txn: 300, Root: 500, Count: 70, Free: 600, Listed: 40, High: 1000}
	b := page(t, base)
	read := 0
	for i := range len(b) - 4 {
		for x := 1; x < 256; x++ {
			if i >= 40 && x&(x-1) != 0 {
				continue
			}
			b[i] ^= byte(x)
			what := fmt.Sprintf("byte %d turned by %x", i, x)
			m := said(b)
			if !free(i) || !byTheChapter(m) || m.Page != len(b) {
				refusesPage(t, what, summed(b))
			} else {
				reads(t, what, summed(b), m)
				read++
			}
			b[i] ^= byte(x)
		}
	}
	if read < 500 {
		t.Errorf("%d pages that say another meta are too few", read)
	}
}

// P5.1: bytes with a right sum that are no meta by the highest byte of a number, which stands far above all that may be.
func TestDecodeOfNumbersTooGreat(t *testing.T) {
	for _, i := range []int{8, 9, 12, 13, 14, 20, 21, 24, 25, 28, 29, 32, 33, 36, 37} {
		for _, x := range []byte{2, 0x7f, 0x80, 0xff} {
			b := page(t, sample())
			b[i] = x
			refusesPage(t, fmt.Sprint("byte ", i, " is ", x), summed(b))
		}
	}
	b := page(t, sample())
	for i := 12; i < 20; i++ {
		b[i] = 0xff
	}
	refusesPage(t, "Txn of all bits", summed(b))
}

// P5.1: other kinds of pages, other signs, a sum that is another's or is zero.
func TestDecodeOfOtherPages(t *testing.T) {
	for kind := 0; kind < 256; kind++ {
		b := page(t, sample())
		b[0] = byte(kind)
		if kind != api.PageMeta {
			refusesPage(t, fmt.Sprint("kind ", kind), summed(b))
		}
	}
	for _, sign := range []string{"espl", "LPSE", "ESPM", "\x00\x00\x00\x00"} {
		b := page(t, sample())
		copy(b[4:], sign)
		refusesPage(t, fmt.Sprintf("sign %q", sign), summed(b))
	}
	b := page(t, sample())
	copy(b[508:], page(t, with(8))[508:])
	refusesPage(t, "another's sum", b)
	copy(b[508:], make([]byte, 4))
	refusesPage(t, "no sum", b)
	b = page(t, sample())
	b[508], b[509], b[510], b[511] = b[511], b[510], b[509], b[508]
	refusesPage(t, "the sum turned round", b)
}

// tellsChanged holds Decode against a page with one change.
func tellsChanged(t *testing.T, b []byte, at int, bits [4]byte) {
	t.Helper()
	for k, x := range bits {
		if at+k < len(b) {
			b[at+k] ^= x
		}
	}
	if m, e := meta.Decode(b); e != api.ErrMeta || m != (api.Meta{}) {
		t.Fatalf("%d bytes, changed from %d on by %x: %+v, %d", len(b), at, bits, m, e)
	}
	for k, x := range bits {
		if at+k < len(b) {
			b[at+k] ^= x
		}
	}
}

// P5.4: changes within four neighbouring bytes ahead of the last four, and among the last four.
func TestDecodeTellsChanges(t *testing.T) {
	r := chance()
	for _, size := range []int{512, 2048, 65536} {
		b := page(t, but(t, sample(), "Page", size))
		last := size - 8
		var places []int
		for at := 0; at <= 60; at++ {
			places = append(places, at)
		}
		for range 60 {
			places = append(places, r.Intn(last+1))
		}
		for _, at := range append(places, last-3, last-2, last-1, last, size-4) {
			for range 4 {
				bits := [4]byte{byte(r.Intn(256)), byte(r.Intn(256)), byte(r.Intn(256)), byte(1 + r.Intn(255))}
				tellsChanged(t, b, at, bits)
			}
			for i := range 32 {
				var bits [4]byte
				bits[i/8] = 1 << (i % 8)
				tellsChanged(t, b, at, bits)
			}
			tellsChanged(t, b, at, [4]byte{0xff, 0xff, 0xff, 0xff})
		}
		reads(t, "as it was", b, but(t, sample(), "Page", size))
	}
}

// P5.4: the last four bytes written over with four others, all of them.
func TestDecodeTellsAnotherSum(t *testing.T) {
	b := page(t, sample())
	right := bytes.Clone(b[508:])
	for n := range 1 << 16 {
		other := []byte{right[0], right[1], byte(n >> 8), byte(n)}
		if n&1 == 1 {
			other = []byte{byte(n >> 8), byte(n), right[2], right[3]}
		}
		if bytes.Equal(other, right) {
			continue
		}
		copy(b[508:], other)
		if _, e := meta.Decode(b); e != api.ErrMeta {
			t.Fatalf("sum %x for %x: %d", other, right, e)
		}
	}
}
