package packed

import (
	"bytes"
	"slices"

	"espalier/api"
	"espalier/cell"
	"espalier/ink"
)

const (
	countAt  = 2
	prefixAt = 4 // where its length stands
	headLen  = 6 // what stands ahead of the prefix
	sumLen   = 4
)

// Page is a page that is worked on.
type Page struct {
	kind, size int
	prefix     []byte
	body       []byte // the cells' bytes, and of those that are gone, till the page is laid anew
	starts     []int  // where in body each cell begins
	waste      int    // how much of body are cells that are gone
}

// New makes an empty one; Open one of these bytes.
func New(kind, page int) (*Page, api.Errno) {
	if !cell.IsKind(kind) || !cell.IsSize(page) {
		return nil, api.ErrArg
	}
	return &Page{kind: kind, size: page}, api.OK
}

func Open(b []byte) (*Page, api.Errno) {
	p := read(b)
	// A page has one form, so whatever else may be wrong with b shows here: its engine, its prefix, its slots, its zeros, its sum.
	if p == nil || !bytes.Equal(p.Bytes(), b) {
		return nil, api.ErrCorrupt
	}
	return p, api.OK
}

// read takes the cells of b from behind its slots on; nil, if there is no room for them, or they may not be.
func read(b []byte) *Page {
	if !cell.IsSize(len(b)) || !cell.IsKind(int(b[0])) {
		return nil
	}
	n, end := shortAt(b, countAt), len(b)-sumLen
	slots := headLen + shortAt(b, prefixAt)
	first := slots + n*slotLen
	if first > end {
		return nil
	}
	p := &Page{kind: int(b[0]), size: len(b), prefix: bytes.Clone(b[headLen:slots]), body: bytes.Clone(b[first:end])}
	if !p.parted(n) {
		return nil
	}
	return p
}

// parted finds where the n cells of the body begin, and cuts off what is behind them; false, if they are not cells that may be, with rising keys.
func (p *Page) parted(n int) bool {
	r := reader{b: p.body}
	p.starts = make([]int, 0, n)
	var last, key []byte // two rooms, taken in turns
	for i := range n {
		p.starts = append(p.starts, r.at)
		e := entry{head: p.head(i), cell: r.cell()}
		key = e.withKey(key[:0])
		e.cell.Key = key
		if r.wrong || !cell.MayBe(p.kind, p.size, e.cell) || i > 0 && !rise(last, key) {
			return false
		}
		last, key = key, last
	}
	p.body = p.body[:r.at]
	return true
}

// laid is a page of these entries, whose keys rise, with the prefix that they share.
func laid(kind, size int, entries []entry) *Page {
	p := &Page{kind: kind, size: size, prefix: shared(kind, entries)}
	for i, e := range entries {
		p.starts = append(p.starts, len(p.body))
		p.body = e.appended(p.body, len(p.head(i)))
	}
	return p
}

// shared is the prefix that the entries share. Their keys rise, so all of them begin with what the first and the last do.
func shared(kind int, entries []entry) []byte {
	if len(entries) > 0 && standsWhole(kind, 0) {
		entries = entries[1:]
	}
	if len(entries) == 0 {
		return nil
	}
	first, last := entries[0].key(), entries[len(entries)-1].key()
	return first[:ink.Common(first, last)]
}

// Kind, Len, Used, Bytes: what it is, how many cells it has, how many bytes it takes, the page.
func (p *Page) Kind() int { return p.kind }

func (p *Page) Len() int { return len(p.starts) }

func (p *Page) Used() int { return p.filled() - p.waste }

func (p *Page) Bytes() []byte { return laid(p.kind, p.size, p.entries()).written() }

// filled tells how many bytes are taken, or were and are not to be had till the page is laid anew.
func (p *Page) filled() int {
	return headLen + len(p.prefix) + slotLen*len(p.starts) + len(p.body) + sumLen
}

// written is the page's bytes, if it has just been laid.
func (p *Page) written() []byte {
	b := make([]byte, 0, p.size)
	b = append(b, byte(p.kind), api.Packed)
	b = withShort(b, len(p.starts))
	b = withShort(b, len(p.prefix))
	b = append(b, p.prefix...)
	first := len(b) + slotLen*len(p.starts)
	for _, start := range p.starts {
		b = withShort(b, first+start)
	}
	b = append(b, p.body...)
	b = b[:p.size-sumLen]
	return append(b, ink.Fixed(uint64(ink.Sum(b)), sumLen)...)
}

// Cell tells a cell.
func (p *Page) Cell(i int) (api.Cell, api.Errno) {
	if !p.has(i) {
		return api.Cell{}, api.ErrSlot
	}
	return p.entry(i).copied(), api.OK
}

// Insert, Set, Remove: one cell.
func (p *Page) Insert(i int, c api.Cell) api.Errno {
	if i != p.Len() && !p.has(i) {
		return api.ErrSlot
	}
	return p.put(i, i, c)
}

func (p *Page) Set(i int, c api.Cell) api.Errno {
	if !p.has(i) {
		return api.ErrSlot
	}
	return p.put(i, i+1, c)
}

func (p *Page) Remove(i int) api.Errno {
	if !p.has(i) {
		return api.ErrSlot
	}
	if standsWhole(p.kind, i) || p.Len() == 1 {
		return p.lay(slices.Delete(p.entries(), i, i+1))
	}
	p.waste += p.taken(i)
	p.starts = slices.Delete(p.starts, i, i+1)
	return api.OK
}

// Waste tells how many bytes of removed cells there are; Tidy lays the cells anew; Prefix tells what all keys share there.
func (p *Page) Waste() int { return p.waste }

func (p *Page) Tidy() { p.lay(p.entries()) }

func (p *Page) Prefix() []byte { return bytes.Clone(p.prefix) }

func (p *Page) has(i int) bool { return i >= 0 && i < p.Len() }

// put lays c in the place of the cells from i to j - 1, if it may be there.
func (p *Page) put(i, j int, c api.Cell) api.Errno {
	if !cell.MayBe(p.kind, p.size, c) {
		return api.ErrCell
	}
	order := p.against(c.Key)
	if i > 0 && order(i-1) >= 0 || j < p.Len() && order(j) <= 0 {
		return api.ErrOrder
	}
	// Cells that have room with the prefix that there is have it also with what they share: none of them needs more bytes then.
	if p.putInPlace(i, j, c) {
		return api.OK
	}
	return p.lay(slices.Replace(p.entries(), i, j, entry{cell: c}))
}

// putInPlace lays c behind the other cells' bytes; false and nothing done, if prefix and waste can't stay then.
func (p *Page) putInPlace(i, j int, c api.Cell) bool {
	if i == j && standsWhole(p.kind, i) {
		// What was a branch's first cell has its whole key in its bytes, as none behind the first one may.
		return false
	}
	head := p.head(i)
	if !bytes.HasPrefix(c.Key, head) {
		return false
	}
	at := len(p.body)
	body := entry{cell: c}.appended(p.body, len(head))
	if p.filled()+len(body)-at+slotLen*(1-(j-i)) > p.size {
		return false
	}
	for k := i; k < j; k++ {
		p.waste += p.taken(k)
	}
	p.body = body
	p.starts = slices.Replace(p.starts, i, j, at)
	return true
}

// lay lays the page anew, with these entries; ErrFit, if they have no room.
func (p *Page) lay(entries []entry) api.Errno {
	anew := laid(p.kind, p.size, entries)
	if anew.Used() > p.size {
		return api.ErrFit
	}
	*p = *anew
	return api.OK
}

// entry is the cell i, in pieces of the page.
func (p *Page) entry(i int) entry {
	r := reader{b: p.body, at: p.starts[i]}
	return entry{head: p.head(i), cell: r.cell()}
}

func (p *Page) entries() []entry {
	l := make([]entry, p.Len())
	for i := range l {
		l[i] = p.entry(i)
	}
	return l
}

// head is what stands once for all and belongs to the key of the cell i.
func (p *Page) head(i int) []byte {
	if standsWhole(p.kind, i) {
		return nil
	}
	return p.prefix
}

// rest is the rest of the key of the cell i, a piece of the page.
func (p *Page) rest(i int) []byte {
	r := reader{b: p.body, at: p.starts[i] + kindLen}
	return r.text()
}

// taken tells how many bytes of the body the cell i has.
func (p *Page) taken(i int) int {
	r := reader{b: p.body, at: p.starts[i]}
	r.cell()
	return r.at - p.starts[i]
}

func withShort(b []byte, n int) []byte { return append(b, byte(n>>8), byte(n)) }

func shortAt(b []byte, at int) int { return int(b[at])<<8 | int(b[at+1]) }
