package spill_test

import (
	"bytes"
	"encoding/binary"
	"fmt"
	"math"
	"math/rand"
	"slices"
	"testing"

	"espalier/api"
	"espalier/ink"
	"espalier/spill"
)

// sizes are all that a page may have.
func sizes() []int { return []int{512, 1024, 2048, 4096, 8192, 16384, 32768, 65536} }

// oddSizes are none that a page may have.
func oddSizes() []int {
	l := []int{0, -1, -512, -65536, 256, 500, 768, 1536, 65024, 131072, 1 << 32, 1<<32 + 512, 1 << 62, math.MinInt, math.MinInt + 512, math.MaxInt}
	for _, n := range sizes() {
		l = append(l, n-1, n+1)
	}
	return l
}

func isSize(page int) bool { return slices.Contains(sizes(), page) }

// chance is the same row of numbers in every run.
func chance() *rand.Rand { return rand.New(rand.NewSource(9)) }

// text is n bytes that are alike nowhere near.
func text(n int) []byte {
	b := make([]byte, n)
	for i := range b {
		b[i] = byte(i*7 + i/251 + 1)
	}
	return b
}

// laid is the chapter's table of a page, told once more: count may be another number than data has, next any number of four bytes.
func laid(next, count int, data []byte, page int) []byte {
	b := []byte{4, 0, 0, 0}
	b = binary.BigEndian.AppendUint32(b, uint32(next))
	b = binary.BigEndian.AppendUint32(b, uint32(count))
	b = append(b, data...)
	b = append(b, make([]byte, page-len(b))...)
	return summed(b)
}

// summed is a page with its last four bytes made right.
func summed(b []byte) []byte {
	b = bytes.Clone(b[:len(b)-4])
	return binary.BigEndian.AppendUint32(b, ink.Sum(b))
}

// good is the page of these bytes.
func good(next int, data []byte, page int) []byte { return laid(next, len(data), data, page) }

// said reads a page by the chapter's table, row by row; nothing, if it is none.
func said(b []byte) (next int, data []byte, is bool) {
	n := len(b)
	if !isSize(n) || !bytes.Equal(b[:4], []byte{4, 0, 0, 0}) {
		return 0, nil, false
	}
	next = int(binary.BigEndian.Uint32(b[4:8]))
	count := int(binary.BigEndian.Uint32(b[8:12]))
	if next == 1 || next > 65535 || count < 1 || count > n-16 {
		return 0, nil, false
	}
	for _, c := range b[12+count : n-4] {
		if c != 0 {
			return 0, nil, false
		}
	}
	if binary.BigEndian.Uint32(b[n-4:]) != ink.Sum(b[:n-4]) {
		return 0, nil, false
	}
	return next, b[12 : 12+count], true
}

// cut is a value in the pieces that its pages hold.
func cut(value []byte, page int) [][]byte {
	var l [][]byte
	for len(value) > 0 {
		n := min(len(value), page-16)
		l = append(l, value[:n])
		value = value[n:]
	}
	return l
}

// chain lays a value into these pages of a bench, which are just enough.
func chain(t *testing.T, r *api.Bench, value []byte, pages ...int) {
	t.Helper()
	pieces := cut(value, r.Size())
	if len(pieces) != len(pages) {
		t.Fatalf("%d pieces, %d pages", len(pieces), len(pages))
	}
	for i, piece := range pieces {
		next := 0
		if i+1 < len(pages) {
			next = pages[i+1]
		}
		lay(t, r, pages[i], good(next, piece, r.Size()))
	}
}

func lay(t *testing.T, r *api.Bench, page int, b []byte) {
	t.Helper()
	if e := r.Lay(page, b); e != api.OK {
		t.Fatalf("Lay(%d): %d", page, e)
	}
}

func bench(t *testing.T, page, pages int) *api.Bench {
	t.Helper()
	r := api.NewBench(api.Plain, page, pages)
	if r == nil {
		t.Fatalf("no bench of %d pages of %d bytes", pages, page)
	}
	return r
}

// witness is a bench that tells what it was asked, and whose call number fail (from 0 on) of those that may fail answers an error of its own.
type witness struct {
	*api.Bench
	asked []string
	calls int
	fail  int
}

const ofTheRoom = api.Errno(113)

func watched(r *api.Bench) *witness { return &witness{Bench: r, fail: -1} }

func (w *witness) refuses(what string, n int) bool {
	w.asked = append(w.asked, fmt.Sprintf("%s %d", what, n))
	w.calls++
	return w.calls-1 == w.fail
}

func (w *witness) Read(n int) ([]byte, api.Errno) {
	if w.refuses("read", n) {
		return nil, ofTheRoom
	}
	return w.Bench.Read(n)
}

func (w *witness) Alloc() (int, api.Errno) {
	if w.refuses("alloc", 0) {
		return 0, ofTheRoom
	}
	return w.Bench.Alloc()
}

func (w *witness) Write(n int, b []byte) api.Errno {
	if w.refuses("write", n) {
		return ofTheRoom
	}
	return w.Bench.Write(n, b)
}

func (w *witness) Free(n int) api.Errno {
	if w.refuses("free", n) {
		return ofTheRoom
	}
	return w.Bench.Free(n)
}

func (w *witness) Spare(n int) bool {
	w.asked = append(w.asked, fmt.Sprintf("spare %d", n))
	return w.Bench.Spare(n)
}

// forgets begins a new row of what was asked.
func (w *witness) forgets() { w.asked, w.calls = nil, 0 }

// rows is a row of asks: what of each of these pages.
func rows(what string, pages ...int) []string {
	var l []string
	for _, p := range pages {
		l = append(l, fmt.Sprintf("%s %d", what, p))
	}
	return l
}

// scattered is a room that hands out these pages, in that order, and keeps what it is given.
type scattered struct {
	*api.Bench
	order []int
}

func (s *scattered) Alloc() (int, api.Errno) {
	if len(s.order) == 0 {
		return 0, api.ErrFull
	}
	n := s.order[0]
	s.order = s.order[1:]
	return n, s.Lay(n, nil)
}

func (s *scattered) Spare(n int) bool { return n <= len(s.order) }

func same[T comparable](t *testing.T, what string, got, want T) {
	if got != want {
		t.Helper()
		t.Errorf("%s: %+v, want %+v", what, got, want)
	}
}

func sameList[T comparable](t *testing.T, what string, got, want []T) {
	if !slices.Equal(got, want) {
		t.Helper()
		t.Errorf("%s: %v, want %v", what, got, want)
	}
}

// sameBytes tells the first byte that differs, for whole pages are too long to print.
func sameBytes(t *testing.T, what string, got, want []byte) {
	t.Helper()
	if len(got) != len(want) {
		t.Errorf("%s: %d bytes, want %d", what, len(got), len(want))
		return
	}
	for i := range got {
		if got[i] != want[i] {
			t.Errorf("%s: byte %d is %d, want %d", what, i, got[i], want[i])
			return
		}
	}
}

// fault goes through a chain as the chapter says, over what lies on a bench: its pages, its bytes, the fault; all and how many pages were read are told beside.
func fault(r *api.Bench, first, n, upto int) (pages []int, data []byte, reads int, e api.Errno) {
	pieces := cut(make([]byte, n), r.Size())
	at := first
	for i := range upto {
		if slices.Contains(pages, at) {
			return nil, nil, reads, api.ErrChain
		}
		b, e := r.Read(at)
		if e != api.OK {
			return nil, nil, reads, e
		}
		reads++
		next, held, is := said(b)
		if len(b) != r.Size() || !is {
			return nil, nil, reads, api.ErrCorrupt
		}
		isLast := i == len(pieces)-1
		if len(held) != len(pieces[i]) || next == 0 && !isLast || next != 0 && isLast {
			return nil, nil, reads, api.ErrChain
		}
		pages, data, at = append(pages, at), append(data, held...), next
	}
	return pages, data, reads, api.OK
}

// goes holds Read and List of a chain against what it is by the chapter: what they answer, and how many pages they read.
func goes(t *testing.T, what string, r *api.Bench, first, n int) api.Errno {
	t.Helper()
	what = fmt.Sprintf("%s: %d bytes from %d on", what, n, first)
	pages, data, reads, want := fault(r, first, n, len(cut(make([]byte, n), r.Size())))
	was := r.Reads()
	b, e := spill.Read(r, first, n)
	same(t, what+": Read", e, want)
	sameBytes(t, what+": Read", b, data)
	same(t, what+": pages that Read reads", r.Reads()-was, reads)
	was = r.Reads()
	l, e := spill.List(r, first, n)
	same(t, what+": List", e, want)
	sameList(t, what+": List", l, pages)
	same(t, what+": pages that List reads", r.Reads()-was, reads)
	return want
}

// faulty is goes of a chain with a fault: Free tells it too, and gives nothing back.
func faulty(t *testing.T, what string, r *api.Bench, first, n int, want api.Errno) {
	t.Helper()
	same(t, what, goes(t, what, r, first, n), want)
	taken := r.Taken()
	same(t, what+": Free", spill.Free(r, first, n), want)
	sameList(t, what+": the pages behind Free", r.Taken(), taken)
}
