package ship

import (
	"espalier/api"
	"espalier/meta"
	"espalier/plate"
)

// isNothing holds of the meta of no commit.
func isNothing(m api.Meta) bool { return m == api.Meta{} }

// other is that one of the pages 0 and 1 that the given one is not.
func other(page int) int { return 1 - page }

// inARow writes pages, one behind the other, and makes them safe.
func inARow(p *plate.Plate, pages ...api.PageData) api.Errno {
	for _, page := range pages {
		if e := p.Write(page.Page, page.Data); e != api.OK {
			return e
		}
	}
	return p.Sync()
}

// rows is what is written for a delta: each row must be safe ahead of the next one.
func (f *Follower) rows(d api.Delta) [][]api.PageData {
	var rows [][]api.PageData
	had := f.commit
	if d.From == 0 {
		rows, had = f.emptying(), api.Meta{}
	}
	rows = append(rows, d.Pages)
	own := meta.Slot(d.To)
	// Written over in its only place, the meta of the commit that it has might be lost, and that of the new one not be there.
	if !isNothing(had) && meta.Slot(had.Txn) == own {
		rows = append(rows, row(other(own), d.Meta))
	}
	return append(rows, row(own, d.Meta))
}

// emptying is the rows by which it comes to have nothing. What may be left of an earlier commit goes first.
func (f *Follower) emptying() [][]api.PageData {
	first := 0
	if !isNothing(f.commit) {
		first = other(meta.Slot(f.commit.Txn))
	}
	zeros := make([]byte, f.device.Page())
	return [][]api.PageData{row(first, zeros), row(other(first), zeros)}
}

// row is one of one page.
func row(page int, data []byte) []api.PageData {
	return []api.PageData{{Page: page, Data: data}}
}

// lastCopy is the copy of a commit's meta on a device that counts, and the page in which it stands; the zero one, if there is none.
func lastCopy(p *plate.Plate) (api.Meta, int, api.Errno) {
	first, e := copyAt(p, 0)
	if e != api.OK {
		return api.Meta{}, 0, e
	}
	second, e := copyAt(p, 1)
	if e != api.OK {
		return api.Meta{}, 0, e
	}
	switch own := meta.Slot(first.Txn); {
	case isNothing(second):
		return first, 0, api.OK
	case isNothing(first) || first.Txn < second.Txn:
		return second, 1, api.OK
	case first.Txn > second.Txn || own == 0:
		return first, 0, api.OK
	}
	return second, 1, api.OK
}

// copyAt is the copy in one of the meta pages; the zero one, if there is none. (A page that meta.Decode takes is of the device's size.)
func copyAt(p *plate.Plate, page int) (api.Meta, api.Errno) {
	b, e := p.Read(page)
	if e != api.OK {
		return api.Meta{}, e
	}
	m, e := meta.Decode(b)
	if e != api.OK || m.High > p.Pages() {
		return api.Meta{}, api.OK
	}
	return m, api.OK
}
