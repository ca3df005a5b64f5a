package store

import (
	"espalier/api"
	"espalier/plate"
)

// look is the last commit as a room in which nothing can be made, good as long as nothing is committed. A view of the pager's would be one, too, but there are only so many: all of them may be taken.
type look struct {
	device *plate.Plate
	meta   api.Meta
}

func (l look) Engine() int { return l.meta.Engine }

func (l look) Size() int { return l.meta.Page }

func (l look) Read(n int) ([]byte, api.Errno) { return l.device.Read(n) }

func (l look) Alloc() (int, api.Errno) { return 0, api.ErrState }

func (l look) Write(n int, b []byte) api.Errno { return api.ErrState }

func (l look) Free(n int) api.Errno { return api.ErrState }

func (l look) Fresh(n int) bool { return false }

func (l look) Spare(n int) bool { return false }
