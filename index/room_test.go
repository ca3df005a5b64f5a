package index_test

import (
	"fmt"
	"strings"
	"testing"

	"espalier/api"
)

// An error that no other part of these tests tells.
const ofTheRoom = api.ErrViews

// act is something that a room was asked.
type act struct {
	what string
	n    int
}

// room is a bench that notes what it is asked, and refuses what a test says.
type room struct {
	*api.Bench
	pages  int
	acts   []act
	fail   int // the number of the act that is refused, from 0 on; below 0: none
	grants int // how many asks for spare pages it grants
}

const plenty = 1 << 30

func newRoom(engine, size, pages int) *room {
	return &room{Bench: api.NewBench(engine, size, pages), pages: pages, fail: -1, grants: plenty}
}

func (r *room) refuses(what string, n int) bool {
	r.acts = append(r.acts, act{what, n})
	return r.fail == len(r.acts)-1
}

func (r *room) Read(n int) ([]byte, api.Errno) {
	if r.refuses("read", n) {
		return nil, ofTheRoom
	}
	return r.Bench.Read(n)
}

func (r *room) Alloc() (int, api.Errno) {
	if r.refuses("alloc", 0) {
		return 0, ofTheRoom
	}
	return r.Bench.Alloc()
}

func (r *room) Write(n int, b []byte) api.Errno {
	if r.refuses("write", n) {
		return ofTheRoom
	}
	return r.Bench.Write(n, b)
}

func (r *room) Free(n int) api.Errno {
	if r.refuses("free", n) {
		return ofTheRoom
	}
	return r.Bench.Free(n)
}

func (r *room) Spare(n int) bool {
	r.acts = append(r.acts, act{"spare", n})
	r.grants--
	return r.grants >= 0 && r.Bench.Spare(n)
}

// page is a page's bytes, without an act.
func (r *room) page(n int) []byte {
	b, _ := r.Bench.Read(n)
	return b
}

// copied is another room with the same pages.
func (r *room) copied() *room {
	c := newRoom(r.Engine(), r.Size(), r.pages)
	for _, n := range r.Taken() {
		c.Lay(n, r.page(n))
	}
	return c
}

// image is all pages that there are, as one text.
func (r *room) image() string {
	var b strings.Builder
	for _, n := range r.Taken() {
		fmt.Fprintf(&b, "%d:%s", n, r.page(n))
	}
	return b.String()
}

// justRead holds what the room was asked from that act on against what a look may ask.
func (r *room) justRead(t *testing.T, what string, from int) {
	t.Helper()
	for _, a := range r.acts[from:] {
		if a.what != "read" {
			t.Errorf("%s: the room was asked to %s %d", what, a.what, a.n)
			return
		}
	}
}
