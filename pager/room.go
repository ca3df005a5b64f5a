package pager

import "espalier/api"

// room is what a transaction and a view both are: a commit's pages, until it is over.
type room struct {
	pager *Pager
	meta  api.Meta // of the commit that is looked at, or that the transaction goes out from
	over  bool
}

func (r *room) Engine() int { return r.meta.Engine }

func (r *room) Size() int { return r.meta.Page }

// refused is what each call that answers an error asks first.
func (r *room) refused() api.Errno {
	switch {
	case r.over:
		return api.ErrOver
	case r.pager.foundDown():
		return api.ErrDown
	}
	return api.OK
}

// stored is page n as the device has it.
func (r *room) stored(n int) ([]byte, api.Errno) { return r.pager.device.Read(n) }
