package query_test

import "espalier/api"

// An error that no other part of these tests tells.
const ofTheRoom = api.ErrViews

// room is a bench that counts how many pages are read, and refuses to read more than a test says.
type room struct {
	*api.Bench
	reads, most int
	changes     int
}

const plenty = 1 << 30

func newRoom(engine int) *room {
	return &room{Bench: bench(engine), most: plenty}
}

func (r *room) Read(n int) ([]byte, api.Errno) {
	r.reads++
	if r.reads > r.most {
		return nil, ofTheRoom
	}
	return r.Bench.Read(n)
}

func (r *room) Alloc() (int, api.Errno) {
	r.changes++
	return r.Bench.Alloc()
}

func (r *room) Write(n int, b []byte) api.Errno {
	r.changes++
	return r.Bench.Write(n, b)
}

func (r *room) Free(n int) api.Errno {
	r.changes++
	return r.Bench.Free(n)
}

func (r *room) Spare(n int) bool {
	r.changes++
	return r.Bench.Spare(n)
}

// during is how many pages are read during a call, of which no more than most can be, and whether nothing is asked of the room but that.
func (r *room) during(most int, call func()) (reads int, looks bool) {
	changes := r.changes
	r.reads, r.most = 0, most
	call()
	reads, r.most = r.reads, plenty
	return reads, r.changes == changes
}
