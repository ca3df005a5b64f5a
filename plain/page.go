package plain

import (
	"bytes"
	"slices"

	"espalier/api"
	"espalier/cell"
	"espalier/ink"
)

const (
	countAt = 2
	headLen = 4 // what stands ahead of the slots
	sumLen  = 4
)

// Page is a page that is worked on.
type Page struct {
	kind, size int
	body       []byte // the cells' bytes, one right behind the other
	starts     []int  // where in body each cell begins
}

// New makes an empty one; Open one of these bytes.
func New(kind, page int) (*Page, api.Errno) {
	if !cell.IsKind(kind) || !cell.IsSize(page) {
		return nil, api.ErrArg
	}
	return &Page{kind: kind, size: page}, api.OK
}

func Open(b []byte) (*Page, api.Errno) {
	p := read(b)
	// A page has one form, so whatever else may be wrong with b shows here: its engine, its slots, its zeros, its sum.
	if p == nil || !bytes.Equal(p.Bytes(), b) {
		return nil, api.ErrCorrupt
	}
	return p, api.OK
}

// read takes the cells of b from where its first slot says that they begin; nil, if they may not be, or do not go to the end.
func read(b []byte) *Page {
	if !cell.IsSize(len(b)) || !cell.IsKind(int(b[0])) {
		return nil
	}
	p := &Page{kind: int(b[0]), size: len(b)}
	n, first, end := shortAt(b, countAt), len(b)-sumLen, len(b)-sumLen
	if n > 0 {
		first = shortAt(b, headLen)
	}
	if first < headLen+n*slotLen || first > end {
		return nil
	}
	p.body = copiedBytes(b[first:end])
	if !p.parted(n) {
		return nil
	}
	return p
}

// parted finds where the n cells of the body begin; false, if the body is not just n cells that may be, with rising keys.
func (p *Page) parted(n int) bool {
	r := reader{b: p.body}
	p.starts = make([]int, 0, n)
	var last []byte
	for i := range n {
		p.starts = append(p.starts, r.at)
		c := r.cell()
		if r.ended || !cell.MayBe(p.kind, p.size, c) || i > 0 && !rise(last, c.Key) {
			return false
		}
		last = c.Key
	}
	return r.at == len(p.body)
}

// Kind, Len, Used, Bytes: what it is, how many cells it has, how many bytes it takes, the page.
func (p *Page) Kind() int { return p.kind }

func (p *Page) Len() int { return len(p.starts) }

func (p *Page) Used() int { return headLen + slotLen*len(p.starts) + len(p.body) + sumLen }

func (p *Page) Bytes() []byte {
	b := make([]byte, p.size)
	b[0], b[1] = byte(p.kind), api.Plain
	putShort(b, countAt, len(p.starts))
	end := len(b) - sumLen
	first := end - len(p.body)
	for i, start := range p.starts {
		putShort(b, headLen+i*slotLen, first+start)
	}
	copy(b[first:], p.body)
	copy(b[end:], ink.Fixed(uint64(ink.Sum(b[:end])), sumLen))
	return b
}

// Cell tells a cell; Find where a key stands, or would stand.
func (p *Page) Cell(i int) (api.Cell, api.Errno) {
	if !p.has(i) {
		return api.Cell{}, api.ErrSlot
	}
	return copied(p.view(i)), api.OK
}

func (p *Page) Find(key []byte) (int, bool) {
	return slices.BinarySearchFunc(p.starts, key, func(start int, key []byte) int {
		return bytes.Compare(p.keyAt(start), key)
	})
}

// Insert, Set, Remove: one cell.
func (p *Page) Insert(i int, c api.Cell) api.Errno {
	if i != p.Len() && !p.has(i) {
		return api.ErrSlot
	}
	return p.put(i, i, c)
}

func (p *Page) Set(i int, c api.Cell) api.Errno {
	if !p.has(i) {
		return api.ErrSlot
	}
	return p.put(i, i+1, c)
}

func (p *Page) Remove(i int) api.Errno {
	if !p.has(i) {
		return api.ErrSlot
	}
	p.replace(i, i+1)
	return api.OK
}

func (p *Page) has(i int) bool { return i >= 0 && i < p.Len() }

// put lays c in the place of the cells from i to j - 1, if it may be there.
func (p *Page) put(i, j int, c api.Cell) api.Errno {
	if !cell.MayBe(p.kind, p.size, c) {
		return api.ErrCell
	}
	if i > 0 && !rise(p.key(i-1), c.Key) || j < p.Len() && !rise(c.Key, p.key(j)) {
		return api.ErrOrder
	}
	gone := p.start(j) - p.start(i) + (j-i)*slotLen
	if p.Used()-gone+taken(c) > p.size {
		return api.ErrFit
	}
	p.replace(i, j, c)
	return api.OK
}

// replace lays cells in the place of those from i to j - 1, without asking whether they may be there.
func (p *Page) replace(i, j int, cells ...api.Cell) {
	from, to := p.start(i), p.start(j)
	var body []byte
	var starts []int
	for _, c := range cells {
		starts = append(starts, from+len(body))
		body = appended(body, c)
	}
	p.body = slices.Replace(p.body, from, to, body...)
	p.starts = slices.Replace(p.starts, i, j, starts...)
	grown := len(body) - (to - from)
	for k := i + len(cells); k < len(p.starts); k++ {
		p.starts[k] += grown
	}
}

// start is where in the body the cell i begins; of the one behind the last, where the body ends.
func (p *Page) start(i int) int {
	if i == len(p.starts) {
		return len(p.body)
	}
	return p.starts[i]
}

// view is the cell i, with a key and a value that are pieces of the page.
func (p *Page) view(i int) api.Cell {
	r := reader{b: p.body, at: p.starts[i]}
	return r.cell()
}

func (p *Page) key(i int) []byte { return p.keyAt(p.starts[i]) }

// keyAt is the key of the cell that begins there, a piece of the page.
func (p *Page) keyAt(start int) []byte {
	r := reader{b: p.body, at: start + kindLen}
	return r.text()
}

func putShort(b []byte, at, n int) { b[at], b[at+1] = byte(n>>8), byte(n) }

func shortAt(b []byte, at int) int { return int(b[at])<<8 | int(b[at+1]) }
