package free_test

import (
	"bytes"
	"encoding/binary"
	"fmt"
	"maps"
	"math"
	"math/rand"
	"slices"
	"testing"

	"espalier/api"
	"espalier/free"
	"espalier/ink"
)

func same[T comparable](t *testing.T, what string, got, want T) {
	t.Helper()
	if got != want {
		t.Errorf("%s: %v, want %v", what, got, want)
	}
}

func sameList(t *testing.T, what string, got, want []int) {
	t.Helper()
	if !slices.Equal(got, want) {
		t.Errorf("%s: %s, want %s", what, brief(got), brief(want))
	}
}

func brief(l []int) string {
	if len(l) > 40 {
		return fmt.Sprintf("%v and so on, %d in all", l[:40], len(l))
	}
	return fmt.Sprint(l)
}

func sameBytes(t *testing.T, what string, got, want []byte) {
	t.Helper()
	if !bytes.Equal(got, want) {
		t.Errorf("%s: %d bytes % x.., want %d bytes % x..", what, len(got), got[:min(40, len(got))], len(want), want[:min(40, len(want))])
	}
}

// chance is the same row of numbers in every run.
func chance() *rand.Rand { return rand.New(rand.NewSource(10)) }

// sizes are all that a page may have.
func sizes() []int { return []int{512, 1024, 2048, 4096, 8192, 16384, 32768, 65536} }

// oddSizes are none that a page may have.
func oddSizes() []int {
	l := []int{0, -1, -512, -65536, 12, 16, 256, 500, 768, 1536, 65024, 131072, 1 << 32, 1<<32 + 512, 1 << 62, math.MinInt, math.MinInt + 512, math.MaxInt}
	for _, n := range sizes() {
		l = append(l, n-1, n+1)
	}
	return l
}

func isSize(page int) bool { return slices.Contains(sizes(), page) }

func isNumber(n int) bool { return 2 <= n && n <= 65535 }

// noNumbers are none that a page may have in a list.
func noNumbers() []int {
	return []int{math.MinInt, math.MinInt + 2, -1 << 32, -65536, -2, -1, 0, 1, 65536, 65537, 1 << 24, 1 << 32, 1<<32 + 2, 1 << 62, math.MaxInt}
}

// row is the numbers from least on, so many.
func row(least, n int) []int {
	l := make([]int, n)
	for i := range l {
		l[i] = least + i
	}
	return l
}

func list(t *testing.T, pages ...int) *free.List {
	t.Helper()
	l, e := free.New(pages)
	if e != api.OK || l == nil {
		t.Fatalf("New(%s): %d", brief(pages), e)
	}
	return l
}

func gives(t *testing.T, l *free.List, page, txn int, want api.Errno) {
	t.Helper()
	same(t, fmt.Sprintf("Give(%d, %d)", page, txn), l.Give(page, txn), want)
}

func takes(t *testing.T, l *free.List, want ...int) {
	t.Helper()
	for _, n := range want {
		got, ok := l.Take()
		same(t, "Take", got, n)
		same(t, "whether Take took", ok, true)
	}
}

func takesNone(t *testing.T, l *free.List) {
	t.Helper()
	n, ok := l.Take()
	same(t, "Take of no page", n, 0)
	same(t, "whether Take took one of none", ok, false)
}

func stands(t *testing.T, what string, l *free.List, isFree, waiting []int) {
	t.Helper()
	sameList(t, what+": Free", l.Free(), isFree)
	sameList(t, what+": Waiting", l.Waiting(), waiting)
	both := slices.Concat(isFree, waiting)
	slices.Sort(both)
	sameList(t, what+": All", l.All(), both)
}

// model is what a list should be, told as plainly as can be: with what each page waits, 0 for the free ones, and whole copies for marks.
type model struct {
	with  map[int]int
	marks []copied
	made  int
}

type copied struct {
	number int
	behind int // how many Marks were made behind it
	with   map[int]int
}

func (m *model) told(is func(txn int) bool) []int {
	var l []int
	for n, txn := range m.with {
		if is(txn) {
			l = append(l, n)
		}
	}
	slices.Sort(l)
	return l
}

func (m *model) free() []int    { return m.told(func(txn int) bool { return txn == 0 }) }
func (m *model) waiting() []int { return m.told(func(txn int) bool { return txn != 0 }) }

func (m *model) take() (int, bool) {
	least := 0
	for n, txn := range m.with {
		if txn == 0 && (least == 0 || n < least) {
			least = n
		}
	}
	delete(m.with, least)
	return least, least != 0
}

func (m *model) give(page, txn int) api.Errno {
	if !isNumber(page) {
		return api.ErrPage
	}
	if txn < 0 || txn > 1<<40 {
		return api.ErrArg
	}
	if _, is := m.with[page]; is {
		return api.ErrTwice
	}
	m.with[page] = txn
	return api.OK
}

func (m *model) release(oldest int) int {
	count := 0
	for _, n := range m.waiting() {
		if m.with[n] <= oldest {
			m.with[n] = 0
			count++
		}
	}
	return count
}

func (m *model) mark() int {
	for i := range m.marks {
		m.marks[i].behind++
	}
	m.made++
	m.marks = append(m.marks, copied{number: m.made, with: maps.Clone(m.with)})
	return m.made
}

func (m *model) back(number int) api.Errno {
	for i, c := range m.marks {
		if c.number == number && c.behind < 16 {
			m.with = maps.Clone(c.with)
			m.marks = m.marks[:i+1]
			return api.OK
		}
	}
	return api.ErrArg
}

// laid is the chapter's table of a page, told once more: count may be another number than there are pages, and these any numbers of four bytes.
func laid(next, count int, pages []int, page int) []byte {
	b := []byte{5, 0}
	b = binary.BigEndian.AppendUint16(b, uint16(count))
	b = binary.BigEndian.AppendUint32(b, uint32(next))
	for _, n := range pages {
		b = binary.BigEndian.AppendUint32(b, uint32(n))
	}
	b = append(b, make([]byte, page-len(b))...)
	return summed(b)
}

// summed is a page with its last four bytes made right.
func summed(b []byte) []byte {
	b = bytes.Clone(b[:len(b)-4])
	return binary.BigEndian.AppendUint32(b, ink.Sum(b))
}

// good is the page of these pages.
func good(next int, pages []int, page int) []byte { return laid(next, len(pages), pages, page) }

// said reads a page by the chapter's table, row by row; nothing, if it is none.
func said(b []byte) (next int, pages []int, is bool) {
	n := len(b)
	if !isSize(n) || b[0] != 5 || b[1] != 0 {
		return 0, nil, false
	}
	count := int(binary.BigEndian.Uint16(b[2:4]))
	next = int(binary.BigEndian.Uint32(b[4:8]))
	if count > (n-12)/4 || next != 0 && !isNumber(next) {
		return 0, nil, false
	}
	for i := range count {
		p := int(binary.BigEndian.Uint32(b[8+4*i:]))
		if !isNumber(p) || i > 0 && p <= pages[i-1] {
			return 0, nil, false
		}
		pages = append(pages, p)
	}
	for _, c := range b[8+4*count : n-4] {
		if c != 0 {
			return 0, nil, false
		}
	}
	return next, pages, binary.BigEndian.Uint32(b[n-4:]) == ink.Sum(b[:n-4])
}
