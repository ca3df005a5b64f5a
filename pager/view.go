package pager

import "espalier/api"

// View is a look at a commit; it is an api.Room that makes nothing.
type View struct {
	room
}

func (v *View) Read(n int) ([]byte, api.Errno) {
	if e := v.refused(); e != api.OK {
		return nil, e
	}
	if n < leastPage || n >= v.meta.High {
		return nil, api.ErrPage
	}
	return v.stored(n)
}

func (v *View) Alloc() (int, api.Errno) { return 0, v.refusedChange() }

func (v *View) Write(n int, b []byte) api.Errno { return v.refusedChange() }

func (v *View) Free(n int) api.Errno { return v.refusedChange() }

func (v *View) Fresh(n int) bool { return false }

func (v *View) Spare(n int) bool { return false }

// Meta tells the commit's; Close ends the look.
func (v *View) Meta() api.Meta { return v.meta }

func (v *View) Close() {
	if v.over {
		return
	}
	v.over = true
	v.pager.leave(v.meta.Txn)
}

// refusedChange is the answer to all that would change something.
func (v *View) refusedChange() api.Errno {
	if e := v.refused(); e != api.OK {
		return e
	}
	return api.ErrState
}
