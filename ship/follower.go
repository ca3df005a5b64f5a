package ship

import (
	"espalier/api"
	"espalier/meta"
	"espalier/plate"
	"espalier/store"
)

// Follower is a device that follows a store.
type Follower struct {
	device *plate.Plate
	commit api.Meta // the commit that it has; the zero one, if it has nothing
	down   bool
}

// NewFollower takes a device up as one.
func NewFollower(p *plate.Plate) (*Follower, api.Errno) {
	if p == nil {
		return nil, api.ErrArg
	}
	m, at, e := lastCopy(p)
	if e != api.OK {
		return nil, e
	}
	own := meta.Slot(m.Txn)
	if isNothing(m) || at == own {
		return &Follower{device: p, commit: m}, api.OK
	}
	b, e := meta.Encode(m)
	if e != api.OK {
		return nil, e
	}
	if e := inARow(p, api.PageData{Page: own, Data: b}); e != api.OK {
		return nil, e
	}
	return &Follower{device: p, commit: m}, api.OK
}

// At tells the commit that it has; Apply takes it to another one.
func (f *Follower) At() int { return f.commit.Txn }

func (f *Follower) Apply(d api.Delta) api.Errno {
	if f.foundDown() {
		return api.ErrDown
	}
	m, e := metaOf(d)
	switch {
	case e != api.OK:
		return e
	case m.Page != f.device.Page():
		return api.ErrDelta
	case d.From != 0 && (d.From != f.commit.Txn || d.Engine != f.commit.Engine):
		return api.ErrGap
	case m.High > f.device.Pages():
		return api.ErrFull
	case isStill(d):
		return api.OK
	}
	for _, pages := range f.rows(d) {
		if e := inARow(f.device, pages...); e != api.OK {
			f.down = true
			return e
		}
	}
	f.commit = m
	return api.OK
}

// Store opens what it has.
func (f *Follower) Store() (*store.Store, api.Errno) {
	switch {
	case f.foundDown():
		return nil, api.ErrDown
	case isNothing(f.commit):
		return nil, api.ErrNoMeta
	}
	twin, e := plate.Load(f.device.Image(), f.device.Page())
	if e != api.OK {
		return nil, e
	}
	return store.Open(twin, f.commit.Engine)
}

// foundDown also remembers it: the device may start again, but what was loose may be gone then.
func (f *Follower) foundDown() bool {
	f.down = f.down || !f.device.Up()
	return f.down
}
