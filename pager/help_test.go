package pager_test

import (
	"bytes"
	"encoding/binary"
	"fmt"
	"math"
	"math/rand"
	"slices"
	"testing"

	"espalier/api"
	"espalier/free"
	"espalier/ink"
	"espalier/meta"
	"espalier/pager"
	"espalier/plate"
)

// A page of 512 bytes of a list lists so many.
const r = 125

func same[T comparable](t *testing.T, what string, got, want T) {
	t.Helper()
	if got != want {
		t.Errorf("%s: %v, want %v", what, got, want)
	}
}

func brief(l []int) string {
	if len(l) > 40 {
		return fmt.Sprintf("%v and so on, %d in all", l[:40], len(l))
	}
	return fmt.Sprint(l)
}

func sameList(t *testing.T, what string, got, want []int) {
	t.Helper()
	if !slices.Equal(got, want) {
		t.Errorf("%s: %s, want %s", what, brief(got), brief(want))
	}
}

// sameBytes tells the first byte that differs, for whole images are too long to print.
func sameBytes(t *testing.T, what string, got, want []byte) {
	t.Helper()
	if len(got) != len(want) {
		t.Errorf("%s: %d bytes, want %d", what, len(got), len(want))
		return
	}
	for i := range got {
		if got[i] != want[i] {
			t.Errorf("%s: byte %d is %d, want %d", what, i, got[i], want[i])
			return
		}
	}
}

// sheet is a page of so many bytes that are not all alike, so that bytes out of place show.
func sheet(size, x int) []byte {
	b := make([]byte, size)
	for i := range b {
		b[i] = byte(x + i/100)
	}
	return b
}

// page is a sheet of 512 bytes; zero one that was never written.
func page(x int) []byte { return sheet(512, x) }

var zero = make([]byte, 512)

// row is the numbers from least on, so many.
func row(least, n int) []int {
	l := make([]int, max(n, 0))
	for i := range l {
		l[i] = least + i
	}
	return l
}

// sizes are all that a page may have.
func sizes() []int { return []int{512, 1024, 2048, 4096, 8192, 16384, 32768, 65536} }

// noPages are numbers that no page may be taken by, of whatever device.
func noPages() []int {
	return []int{math.MinInt, math.MinInt + 2, -1 << 32, -65536, -2, -1, 0, 1, 65536, 1 << 24, 1 << 32, 1<<32 + 2, 1 << 62, math.MaxInt}
}

// chance is the same row of numbers in every run.
func chance() *rand.Rand { return rand.New(rand.NewSource(11)) }

func device(t *testing.T, pages int) *plate.Plate {
	t.Helper()
	d := plate.New(512, pages)
	if d == nil {
		t.Fatalf("no device of %d pages", pages)
	}
	return d
}

func loaded(t *testing.T, image []byte) *plate.Plate {
	t.Helper()
	d, e := plate.Load(image, 512)
	if e != api.OK {
		t.Fatal("no device:", e)
	}
	return d
}

func opened(t *testing.T, d *plate.Plate) *pager.Pager {
	t.Helper()
	p, e := pager.Open(d, api.Plain)
	if e != api.OK || p == nil {
		t.Fatalf("Open: %d", e)
	}
	return p
}

// both are a new device and a pager over it.
func both(t *testing.T, pages int) (*plate.Plate, *pager.Pager) {
	t.Helper()
	d := device(t, pages)
	return d, opened(t, d)
}

func refusesOpen(t *testing.T, what string, d *plate.Plate, engine int, want api.Errno) {
	t.Helper()
	p, e := pager.Open(d, engine)
	same(t, what, e, want)
	same(t, what+": no pager beside the error", p == nil, true)
}

func begun(t *testing.T, p *pager.Pager) *pager.Txn {
	t.Helper()
	x, e := p.Begin()
	if e != api.OK || x == nil {
		t.Fatalf("Begin: %d", e)
	}
	return x
}

func refusesBegin(t *testing.T, p *pager.Pager, want api.Errno) {
	t.Helper()
	x, e := p.Begin()
	same(t, "Begin", e, want)
	same(t, "no transaction beside the error", x == nil, true)
}

func viewed(t *testing.T, p *pager.Pager) *pager.View {
	t.Helper()
	v, e := p.View()
	if e != api.OK || v == nil {
		t.Fatalf("View: %d", e)
	}
	return v
}

func refusesView(t *testing.T, p *pager.Pager, want api.Errno) {
	t.Helper()
	v, e := p.View()
	same(t, "View", e, want)
	same(t, "no view beside the error", v == nil, true)
}

func takes(t *testing.T, x api.Room, want ...int) {
	t.Helper()
	for _, n := range want {
		got, e := x.Alloc()
		same(t, "Alloc", e, api.OK)
		same(t, "Alloc", got, n)
	}
}

func refusesAlloc(t *testing.T, x api.Room, want api.Errno) {
	t.Helper()
	n, e := x.Alloc()
	same(t, "Alloc", e, want)
	same(t, "the page beside the error", n, 0)
}

// writes lays page(k) there.
func writes(t *testing.T, x api.Room, n, k int, want api.Errno) {
	t.Helper()
	same(t, fmt.Sprintf("Write(%d)", n), x.Write(n, page(k)), want)
}

func frees(t *testing.T, x api.Room, want api.Errno, pages ...int) {
	t.Helper()
	for _, n := range pages {
		same(t, fmt.Sprintf("Free(%d)", n), x.Free(n), want)
	}
}

func reads(t *testing.T, x api.Room, n int, want []byte) {
	t.Helper()
	b, e := x.Read(n)
	same(t, fmt.Sprintf("Read(%d)", n), e, api.OK)
	sameBytes(t, fmt.Sprintf("Read(%d)", n), b, want)
}

func refusesRead(t *testing.T, x api.Room, n int, want api.Errno) {
	t.Helper()
	b, e := x.Read(n)
	same(t, fmt.Sprintf("Read(%d)", n), e, want)
	same(t, "bytes beside the error", len(b), 0)
}

func roots(t *testing.T, x *pager.Txn, root, count int) {
	t.Helper()
	gotRoot, gotCount := x.Root()
	same(t, "Root", [2]int{gotRoot, gotCount}, [2]int{root, count})
}

func setsRoot(t *testing.T, x *pager.Txn, root, count int, want api.Errno) {
	t.Helper()
	same(t, fmt.Sprintf("SetRoot(%d, %d)", root, count), x.SetRoot(root, count), want)
}

func commits(t *testing.T, x *pager.Txn, want int) {
	t.Helper()
	n, e := x.Commit()
	same(t, "Commit", e, api.OK)
	same(t, "Commit", n, want)
}

func refusesCommit(t *testing.T, x *pager.Txn, want api.Errno) {
	t.Helper()
	n, e := x.Commit()
	same(t, "Commit", e, want)
	same(t, "the number beside the error", n, 0)
}

func rollsBack(t *testing.T, x *pager.Txn, want api.Errno) {
	t.Helper()
	same(t, "Rollback", x.Rollback(), want)
}

// metaPage is the page of a meta of the engine Plain, with pages of 512 bytes.
func metaPage(t *testing.T, m api.Meta) []byte {
	t.Helper()
	b, e := meta.Encode(plainMeta(m))
	if e != api.OK {
		t.Fatalf("no meta: %+v", m)
	}
	return b
}

// plainMeta is m with the engine and the page size that most tests have.
func plainMeta(m api.Meta) api.Meta {
	if m.Engine == 0 {
		m.Engine = api.Plain
	}
	m.Page = 512
	return m
}

// listPage is the list page of any numbers, also of those that none may have.
func listPage(next int, pages ...int) []byte {
	b := binary.BigEndian.AppendUint16([]byte{5, 0}, uint16(len(pages)))
	b = binary.BigEndian.AppendUint32(b, uint32(next))
	for _, n := range pages {
		b = binary.BigEndian.AppendUint32(b, uint32(n))
	}
	return summed(append(b, make([]byte, 512-len(b))...))
}

// summed is a page with its last four bytes made right.
func summed(b []byte) []byte {
	b = bytes.Clone(b[:len(b)-4])
	return binary.BigEndian.AppendUint32(b, ink.Sum(b))
}

// laid is a device of so many pages with a meta at its place and these pages.
func laid(t *testing.T, pages int, m api.Meta, with map[int][]byte) *plate.Plate {
	t.Helper()
	image := make([]byte, 512*pages)
	copy(image[512*meta.Slot(m.Txn):], metaPage(t, m))
	for n, b := range with {
		copy(image[512*n:], b)
	}
	return loaded(t, image)
}

// onDevice is what a device has of a page, read where no Read is counted.
func onDevice(d *plate.Plate, n int) []byte {
	return d.Image()[d.Page()*n : d.Page()*(n+1)]
}

// told is what a device says of its last commit: the meta, the list's pages, those that they list, in their order.
type told struct {
	meta   api.Meta
	chain  []int
	listed []int
}

// tell reads a device without a pager.
func tell(t *testing.T, d *plate.Plate) told {
	t.Helper()
	m, _, e := meta.Choose(onDevice(d, 0), onDevice(d, 1))
	if e != api.OK {
		t.Fatalf("no meta: %d", e)
	}
	c := told{meta: m}
	for n := m.Free; n != 0; {
		next, pages, e := free.Decode(onDevice(d, n))
		if e != api.OK || slices.Contains(c.chain, n) {
			t.Fatalf("page %d is no page of the list: %d", n, e)
		}
		c.chain, c.listed, n = append(c.chain, n), append(c.listed, pages...), next
	}
	return c
}

// whole holds P11.11: the pages below High are those in use, the list's and those listed, each just one of these.
func whole(t *testing.T, d *plate.Plate, inUse []int) {
	t.Helper()
	c := tell(t, d)
	same(t, "Listed", c.meta.Listed, len(c.listed))
	sameList(t, "the list's pages rise", c.chain, sorted(c.chain))
	sameList(t, "those listed rise", c.listed, sorted(c.listed))
	sameList(t, "the pages below High", sorted(inUse, c.chain, c.listed), row(2, c.meta.High-2))
}

func sorted(lists ...[]int) []int {
	l := slices.Concat(lists...)
	slices.Sort(l)
	return l
}

// sight is all that a pager and its device tell of themselves without being changed by it, but the count of Reads, which is free.
type sight struct {
	meta   api.Meta
	views  string
	spare  int
	writes int
	syncs  int
	loose  int
	up     bool
	image  string
	safe   string
}

func look(d *plate.Plate, p *pager.Pager) sight {
	c := d.Counts()
	return sight{p.Meta(), fmt.Sprint(p.Views()), p.Spare(), c.Writes, c.Syncs, d.Loose(), d.Up(), string(d.Image()), string(d.Safe())}
}

// unchanged holds two looks against each other.
func unchanged(t *testing.T, what string, got, was sight) {
	t.Helper()
	same(t, what+": the image is as it was", got.image == was.image, true)
	same(t, what+": what is safe is as it was", got.safe == was.safe, true)
	got.image, got.safe, was.image, was.safe = "", "", "", ""
	same(t, what, got, was)
}

// rest is what a transaction could still take: all pages, one by one. It is over afterwards.
func rest(t *testing.T, x *pager.Txn) []int {
	t.Helper()
	var l []int
	for {
		n, e := x.Alloc()
		if e != api.OK {
			same(t, "Alloc of none", e, api.ErrFull)
			rollsBack(t, x, api.OK)
			return l
		}
		l = append(l, n)
	}
}

// stuff is a pager with a history. Commit 1: 2 is the root, 2 to 6 are written as page(1) to page(5), 7 is fresh and not written, 8 and 9 were given back. Commit 2, with a view of commit 1 open: 3 is given back and waits.
type stuff struct {
	d *plate.Plate
	p *pager.Pager
	v *pager.View
}

func stuffed(t *testing.T, pages int) stuff {
	t.Helper()
	d, p := both(t, pages)
	x := begun(t, p)
	takes(t, x, row(2, 8)...)
	for n := 2; n <= 6; n++ {
		writes(t, x, n, n-1, api.OK)
	}
	setsRoot(t, x, 2, 1, api.OK)
	frees(t, x, api.OK, 8, 9)
	commits(t, x, 1) // the list: 9, in page 8
	v := viewed(t, p)
	x = begun(t, p)
	frees(t, x, api.OK, 3)
	commits(t, x, 2) // the list: 3 and 8 wait; 9 is free, and taken for it
	same(t, "Meta", p.Meta(), plainMeta(api.Meta{Txn: 2, Root: 2, Count: 1, Free: 9, Listed: 2, High: 10}))
	return stuff{d, p, v}
}
