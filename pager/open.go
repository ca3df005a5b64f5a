package pager

import (
	"espalier/api"
	"espalier/free"
	"espalier/meta"
	"espalier/plate"
)

// Pages 0 and 1 are meta pages; none below this one is ever taken.
const leastPage = 2

// Open takes a device up, or begins on one of zeros.
func Open(p *plate.Plate, engine int) (*Pager, api.Errno) {
	switch {
	case p == nil:
		return nil, api.ErrArg
	case engine != api.Plain && engine != api.Packed:
		return nil, api.ErrEngine
	}
	m, e := chosen(p)
	if e == api.ErrNoMeta {
		m, e = beginAnew(p, engine)
	}
	switch {
	case e != api.OK:
		return nil, e
	case m.Engine != engine || m.High > p.Pages():
		return nil, api.ErrFormat
	}
	chain, listed, e := readList(p, m)
	if e != api.OK {
		return nil, e
	}
	return &Pager{device: p, last: m, stock: newStock(p, m.High, chain, listed)}, api.OK
}

func chosen(p *plate.Plate) (api.Meta, api.Errno) {
	a, e := p.Read(0)
	if e != api.OK {
		return api.Meta{}, e
	}
	b, e := p.Read(1)
	if e != api.OK {
		return api.Meta{}, e
	}
	m, _, e := meta.Choose(a, b)
	return m, e
}

// beginAnew refuses a device whose meta pages are lost, but not what they led to.
func beginAnew(p *plate.Plate, engine int) (api.Meta, api.Errno) {
	for n := leastPage; n < p.Pages(); n++ {
		b, e := p.Read(n)
		if e != api.OK {
			return api.Meta{}, e
		}
		if !isZero(b) {
			return api.Meta{}, api.ErrNoMeta
		}
	}
	m := api.Meta{Engine: engine, Page: p.Page(), High: leastPage}
	return m, writeMeta(p, m)
}

func isZero(b []byte) bool {
	for _, x := range b {
		if x != 0 {
			return false
		}
	}
	return true
}

// writeMeta makes a commit the last one: all that it leads to must be safe already.
func writeMeta(p *plate.Plate, m api.Meta) api.Errno {
	b, e := meta.Encode(m)
	if e != api.OK {
		return e
	}
	if e := p.Write(meta.Slot(m.Txn), b); e != api.OK {
		return e
	}
	return p.Sync()
}

// readList tells the list's pages, and those that they list.
func readList(p *plate.Plate, m api.Meta) (chain, listed []int, e api.Errno) {
	// The root is in use: it may stand in the list no more than a page that stands there already.
	seen := setOf(m.Root)
	enter := func(n int) bool {
		may := n >= leastPage && n < m.High && !seen.has(n)
		seen.add(n)
		return may
	}
	for n := m.Free; n != 0; {
		if !enter(n) {
			return nil, nil, api.ErrCorrupt
		}
		next, pages, e := readListPage(p, n)
		if e != api.OK {
			return nil, nil, e
		}
		for _, page := range pages {
			if !enter(page) {
				return nil, nil, api.ErrCorrupt
			}
		}
		chain, listed, n = append(chain, n), append(listed, pages...), next
	}
	if len(listed) != m.Listed {
		return nil, nil, api.ErrCorrupt
	}
	return chain, listed, api.OK
}

func readListPage(p *plate.Plate, n int) (int, []int, api.Errno) {
	b, e := p.Read(n)
	if e != api.OK {
		return 0, nil, e
	}
	return free.Decode(b)
}
