package ship_test

import (
	"bytes"
	"encoding/binary"
	"fmt"
	"hash/crc32"
	"math/rand"
	"slices"
	"testing"

	"espalier/api"
	"espalier/ink"
	"espalier/ship"
)

// laid is a delta's bytes by the chapter's table, whatever it says.
func laid(d api.Delta) []byte {
	b := []byte{0x45, 0x53, 0x50, 0x44, byte(d.Engine), 0, 0, 0}
	b = binary.BigEndian.AppendUint32(b, uint32(d.Page))
	b = binary.BigEndian.AppendUint64(b, uint64(d.From))
	b = binary.BigEndian.AppendUint64(b, uint64(d.To))
	b = binary.BigEndian.AppendUint32(b, uint32(len(d.Pages)))
	b = append(b, d.Meta...)
	for _, p := range d.Pages {
		b = binary.BigEndian.AppendUint32(b, uint32(p.Page))
		b = append(b, p.Data...)
	}
	return summed(b)
}

// summed is bytes with their sum behind them.
func summed(b []byte) []byte {
	return binary.BigEndian.AppendUint32(bytes.Clone(b), ink.Sum(b))
}

// resummed is bytes the last four of which were made right.
func resummed(b []byte) []byte { return summed(b[:len(b)-4]) }

// pagesAt is pages of those numbers, with bytes that are not alike.
func pagesAt(size int, numbers ...int) (l []api.PageData) {
	for _, n := range numbers {
		l = append(l, api.PageData{Page: n, Data: []byte(long(size, byte(n*7)))})
	}
	return l
}

// handmade is a delta from one commit to another, whose meta has a High.
func handmade(t *testing.T, engine, size, from, to, high int, numbers ...int) api.Delta {
	t.Helper()
	m := api.Meta{Engine: engine, Page: size, Txn: to, High: high}
	return api.Delta{Engine: engine, Page: size, From: from, To: to, Pages: pagesAt(size, numbers...), Meta: metaPage(t, m)}
}

// backAndForth holds a delta to be written as the table says, and read back.
func backAndForth(t *testing.T, what string, d api.Delta) []byte {
	t.Helper()
	b, e := ship.Encode(d)
	must(t, what+": Encode", e)
	same(t, what+": Encode", bytes.Equal(b, laid(d)), true)
	c, e := ship.Decode(b)
	must(t, what+": Decode", e)
	sameDelta(t, what+": Decode", c, d)
	return b
}

// noDelta holds bytes to be none.
func noDelta(t *testing.T, what string, b []byte) {
	d, e := ship.Decode(b)
	if e != api.ErrDelta {
		t.Helper()
		same(t, what, e, api.ErrDelta)
	}
	nowhere(t, what, d)
}

// mayNotBe holds a delta to be refused, by Encode, as bytes, and by followers.
func mayNotBe(t *testing.T, what string, d api.Delta) {
	t.Helper()
	b, e := ship.Encode(d)
	same(t, what+": Encode", e, api.ErrDelta)
	same(t, what+": beside the error", b == nil, true)
	if isLaid(d) {
		noDelta(t, what+": its bytes", laid(d))
	}
}

// isLaid holds of a delta whose numbers fit into their places.
func isLaid(d api.Delta) bool {
	return d.Engine>>8 == 0 && d.Page>>32 == 0 && !slices.ContainsFunc(d.Pages, func(p api.PageData) bool { return p.Page>>32 != 0 })
}

// P23.2, P23.6: what Take answers of drawn histories, as bytes and back.
func TestBytesOfDrawnDeltas(t *testing.T) {
	eachSize(t, func(t *testing.T, engine, size, pages int) {
		_, l := drawn(t, engine, size, pages, int64(3*size+engine), 6)
		for i, to := range l {
			backAndForth(t, "from nothing", take(t, nil, to))
			for _, from := range l[:i+1] {
				backAndForth(t, "a delta", take(t, from, to))
			}
		}
	})
}

// P23.2, P23.6: deltas at the edges of what may be.
func TestBytesOfHandmadeDeltas(t *testing.T) {
	for _, engine := range engines() {
		for size := api.MinPage; size <= api.MaxPage; size *= 2 {
			top := min(api.MaxPages, api.MaxBytes/size)
			for what, d := range map[string]api.Delta{
				"from 0 to 0":                   handmade(t, engine, size, 0, 0, 2),
				"from 0 to 0, with pages":       handmade(t, engine, size, 0, 0, 5, 2, 4),
				"from 0 to the last":            handmade(t, engine, size, 0, api.MaxTxn, top, 2, 3, top-1),
				"from 1 to 2, without pages":    handmade(t, engine, size, 1, 2, 9),
				"from the last to the last":     handmade(t, engine, size, api.MaxTxn, api.MaxTxn, 9),
				"to the last but one's next":    handmade(t, engine, size, api.MaxTxn-1, api.MaxTxn, 9, 8),
				"the greatest page's number":    handmade(t, engine, size, 3, 7, api.MaxPages, 2, api.MaxPages-1),
				"the least and the last of few": handmade(t, engine, size, 3, 7, 3, 2),
			} {
				backAndForth(t, fmt.Sprint(what, ", pages of ", size), d)
			}
		}
	}
}

// P23.2: the table's places, by hand.
func TestTheTable(t *testing.T) {
	d := handmade(t, api.Packed, 512, 0x0102030405, 0x0203040506, 0x10000, 0x0607, 0x0A0B)
	b := backAndForth(t, "by hand", d)
	same(t, "head", fmt.Sprintf("%X", b[:32]), "4553504402000000000002000000000102030405000000020304050600000002")
	same(t, "meta", bytes.Equal(b[32:544], d.Meta), true)
	same(t, "a page's number", fmt.Sprintf("%X", b[544:548]), "00000607")
	same(t, "a page's bytes", bytes.Equal(b[548:1060], d.Pages[0].Data), true)
	same(t, "the next one's", fmt.Sprintf("%X", b[1060:1064]), "00000A0B")
	same(t, "its bytes", bytes.Equal(b[1064:1576], d.Pages[1].Data), true)
	same(t, "length", len(b), 1580)
	same(t, "sum", fmt.Sprintf("%X", b[1576:]), fmt.Sprintf("%08X", crc32.Checksum(b[:1576], crc32.MakeTable(crc32.Castagnoli))))
}

// spoilt are deltas each of which may not be, by one thing alone.
func spoilt(t *testing.T, engine int) map[string]api.Delta {
	t.Helper()
	good := func() api.Delta { return handmade(t, engine, 512, 3, 7, 20, 2, 9, 19) }
	backAndForth(t, "the good one", good())
	l := map[string]api.Delta{"none at all": {}}
	spoil := func(what string, do func(d *api.Delta)) {
		d := good()
		do(&d)
		l[what] = d
	}
	for _, n := range []int{0, 3 - engine, 3, -1, 256 + engine, -1 << 63, 1<<63 - 1} {
		spoil(fmt.Sprint("engine ", n), func(d *api.Delta) { d.Engine = n })
	}
	for _, n := range []int{0, 1024, 256, 513, 131072, -512, 1<<32 + 512, -1 << 63, 1<<63 - 1} {
		spoil(fmt.Sprint("pages of ", n), func(d *api.Delta) { d.Page = n })
	}
	for _, n := range []int{8, -1, 7, api.MaxTxn, api.MaxTxn + 1, -1 << 63, 1<<63 - 1} {
		spoil(fmt.Sprint("from ", n), func(d *api.Delta) { d.From = n })
	}
	for _, n := range []int{0, 2, 6, 8, -7, api.MaxTxn, api.MaxTxn + 1, -1 << 63, 1<<63 - 1} {
		spoil(fmt.Sprint("to ", n), func(d *api.Delta) { d.To = n })
	}
	spoil("no meta", func(d *api.Delta) { d.Meta = nil })
	spoil("half a meta", func(d *api.Delta) { d.Meta = d.Meta[:511] })
	spoil("more than a meta", func(d *api.Delta) { d.Meta = append(d.Meta, 0) })
	spoil("a turned bit", func(d *api.Delta) { d.Meta[100] ^= 4 })
	spoil("another engine's meta", func(d *api.Delta) { d.Meta = metaPage(t, api.Meta{Engine: 3 - engine, Page: 512, Txn: 7, High: 20}) })
	spoil("a greater page's meta", func(d *api.Delta) { d.Meta = metaPage(t, api.Meta{Engine: engine, Page: 1024, Txn: 7, High: 20}) })
	spoil("another commit's meta", func(d *api.Delta) { d.Meta = metaPage(t, api.Meta{Engine: engine, Page: 512, Txn: 6, High: 20}) })
	spoil("a meta of less", func(d *api.Delta) { d.Meta = metaPage(t, api.Meta{Engine: engine, Page: 512, Txn: 7, High: 19}) })
	spoil("beyond the last commit", func(d *api.Delta) { d.From, d.To = api.MaxTxn+1, api.MaxTxn+1 })
	spoil("both below 0", func(d *api.Delta) { d.From, d.To = -2, -1 })
	spoil("pages, and no way", func(d *api.Delta) { d.From = d.To })
	for _, l := range [][]int{{1}, {0}, {-1}, {20}, {2, 20}, {19, 9}, {2, 2}, {2, 9, 9}, {2, 9, 3}, {65536}, {-1 << 63}, {1<<63 - 1}, {1 << 32}, {1<<32 + 2}, {0, 2}, {1, 2}} {
		spoil(fmt.Sprint("pages ", l), func(d *api.Delta) { d.Pages = pagesAt(512, l...) })
	}
	for at := range 3 {
		spoil("a page without bytes", func(d *api.Delta) { d.Pages[at].Data = nil })
		spoil("a page of less", func(d *api.Delta) { d.Pages[at].Data = d.Pages[at].Data[:511] })
		spoil("a page of more", func(d *api.Delta) { d.Pages[at].Data = append(d.Pages[at].Data, 0) })
	}
	return l
}

// P23.2: what may not be is refused, field by field, at the edges, whether it is handed in or read.
func TestDeltasThatMayNotBe(t *testing.T) {
	for _, engine := range engines() {
		for what, d := range spoilt(t, engine) {
			mayNotBe(t, what, d)
		}
	}
}

// P23.2: a page's size that is none, though the delta says throughout that it is one.
func TestDeltasOfNoPageSize(t *testing.T) {
	for _, size := range []int{1, 64, 256, 384, 513, 768, 131072} {
		d := api.Delta{Engine: 1, Page: size, To: 1, Meta: make([]byte, size)}
		if size >= 44 {
			b := d.Meta
			b[0], b[1] = 1, 1
			copy(b[4:], "ESPL")
			binary.BigEndian.PutUint32(b[8:], uint32(size))
			b[19], b[39] = 1, 2
			d.Meta = resummed(b)
		}
		mayNotBe(t, fmt.Sprint("pages of ", size), d)
	}
}

// P23.2: bytes that are cut, lengthened, of other zeros, another sign, a wrong count, all with a right sum.
func TestBytesThatAreNoDelta(t *testing.T) {
	for _, engine := range engines() {
		b := backAndForth(t, "the good one", handmade(t, engine, 512, 3, 7, 20, 2, 9, 19))
		for n := range len(b) {
			noDelta(t, fmt.Sprint("cut to ", n), b[:n])
			if n >= 4 {
				noDelta(t, fmt.Sprint("cut to ", n, ", and summed"), resummed(b[:n]))
			}
		}
		for _, n := range []int{1, 2, 3, 4, 5, 511, 512, 516, 1032} {
			noDelta(t, "lengthened", append(bytes.Clone(b), make([]byte, n)...))
			noDelta(t, "lengthened, and summed", summed(append(bytes.Clone(b[:len(b)-4]), make([]byte, n)...)))
			noDelta(t, "begun too early", append(make([]byte, n), b...))
		}
		for at := range 32 {
			for bit := range 8 {
				x := bytes.Clone(b)
				x[at] ^= 1 << bit
				// Another commit to lead from, below 7, is another delta.
				if at == 19 && x[at] < 7 {
					_, e := ship.Decode(resummed(x))
					same(t, "another From", e, api.OK)
					continue
				}
				noDelta(t, fmt.Sprint("byte ", at, ", bit ", bit, ", and summed"), resummed(x))
			}
		}
		for _, count := range []uint32{0, 1, 2, 4, 1000, 65535, 65536, 1 << 31, 1<<32 - 1} {
			x := bytes.Clone(b)
			binary.BigEndian.PutUint32(x[28:], count)
			noDelta(t, fmt.Sprint(count, " pages"), resummed(x))
		}
		for _, size := range []uint32{0, 1, 4, 256, 511, 1024, 65536, 131072, 1 << 31, 1<<32 - 1, 1<<32 - 512, 1<<32 - 4} {
			for _, count := range []uint32{0, 3, 1 << 31, 1<<32 - 1} {
				x := bytes.Clone(b)
				binary.BigEndian.PutUint32(x[8:], size)
				binary.BigEndian.PutUint32(x[28:], count)
				noDelta(t, fmt.Sprint(count, " pages of ", size), resummed(x))
			}
		}
	}
	for n := range 600 {
		noDelta(t, "zeros", make([]byte, n))
		noDelta(t, "ones", bytes.Repeat([]byte{0xff}, n))
		noDelta(t, "the sign alone", append([]byte("ESPD"), make([]byte, n)...))
	}
	noDelta(t, "nil", nil)
	// So many pages of that size that their bytes, counted in 64 bits, come round to those that there are.
	head := append([]byte("ESPD\x01\x00\x00\x00\xff\xff\xff\xfc"), make([]byte, 16)...)
	noDelta(t, "a length that comes round", append(head, 0xff, 0xff, 0xff, 0xff))
}

// P23.2: a delta's pages' numbers, within its bytes.
func TestBytesWithWrongPages(t *testing.T) {
	b := laid(handmade(t, 1, 512, 3, 7, 20, 2, 9, 19))
	at := func(page int) int { return 544 + 516*page }
	for _, x := range []struct {
		page int
		n    uint32
		is   api.Errno
	}{{0, 3, api.OK}, {0, 8, api.OK}, {0, 9, api.ErrDelta}, {0, 1, api.ErrDelta}, {0, 0, api.ErrDelta}, {1, 3, api.OK}, {1, 2, api.ErrDelta}, {1, 18, api.OK}, {1, 19, api.ErrDelta}, {2, 10, api.OK}, {2, 9, api.ErrDelta}, {2, 20, api.ErrDelta}, {2, 1 << 31, api.ErrDelta}, {2, 1<<32 - 1, api.ErrDelta}} {
		c := bytes.Clone(b)
		binary.BigEndian.PutUint32(c[at(x.page):], x.n)
		_, e := ship.Decode(resummed(c))
		same(t, fmt.Sprint("page ", x.page, " is ", x.n), e, x.is)
		noDelta(t, "not summed", c[:len(c)-4])
	}
}

// P23.6: bytes that were changed within four neighbouring ones, or among the last four, are refused.
func TestChangedBytes(t *testing.T) {
	for _, engine := range engines() {
		t.Run(fmt.Sprint("engine ", engine), func(t *testing.T) {
			t.Parallel()
			x := chance(int64(engine))
			for _, d := range []api.Delta{handmade(t, engine, 512, 3, 7, 20, 2, 9, 19), handmade(t, engine, 512, 0, 0, 2)} {
				b := backAndForth(t, "the good one", d)
				for at := range b {
					c := bytes.Clone(b)
					c[at] ^= byte(1 + x.Intn(255))
					noDelta(t, fmt.Sprint("byte ", at), c)
				}
				for range 4000 {
					at := x.Intn(len(b) - 7)
					if x.Intn(8) == 0 {
						at = len(b) - 4
					}
					noDelta(t, fmt.Sprint("about ", at), changed(x, b, at))
				}
			}
		})
	}
}

// changed is bytes of which some were, of the four from there on.
func changed(x *rand.Rand, b []byte, at int) []byte {
	c := bytes.Clone(b)
	for slices.Equal(b, c) {
		for i := range 4 {
			if x.Intn(2) == 0 {
				c[at+i] = byte(x.Intn(256))
			}
		}
	}
	return c
}

// P23.2: bytes that are drawn, or put together of two deltas' bytes, are a delta only if they are what Encode writes of it.
func TestDrawnBytes(t *testing.T) {
	x := chance(5)
	one := laid(handmade(t, 1, 512, 3, 7, 20, 2, 9, 19))
	two := laid(handmade(t, 1, 512, 0, 7, 40, 2, 9, 21))
	good := 0
	for range 20000 {
		b := bytes.Clone(one)
		for range 1 + x.Intn(3) {
			at := x.Intn(len(b))
			end := at + x.Intn(len(b)-at)
			if x.Intn(2) == 0 {
				at, end = 8*x.Intn(4), 544
			}
			copy(b[at:end], two[at:end])
		}
		if x.Intn(2) == 0 {
			b = resummed(b)
		}
		d, e := ship.Decode(b)
		if e != api.OK {
			same(t, "Decode", e, api.ErrDelta)
			nowhere(t, "Decode", d)
			continue
		}
		good++
		same(t, "what Encode writes", bytes.Equal(laid(d), b), true)
		_, e = ship.Encode(d)
		must(t, "Encode", e)
	}
	same(t, fmt.Sprint(good, " were deltas"), good > 500, true)
}
