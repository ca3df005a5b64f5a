package pager

import (
	"sort"

	"espalier/api"
	"espalier/free"
	"espalier/plate"
)

// stock knows which pages are in use, and which may be taken.
type stock struct {
	list   *free.List
	listed set // the pages of list again, for it cannot be asked for one of them
	free   int // how many of these are free
	chain  set // the list's pages: those in which the last commit has written its list
	high   int // the height: pages from 2 on below it were ever in use
	pages  int // of the device
	room   int // how many pages one of the list's has room for
}

func newStock(p *plate.Plate, high int, chain, listed []int) *stock {
	// The pages were looked at when they were read: there is such a list.
	list, _ := free.New(listed)
	s := &stock{list: list, chain: setOf(chain...), high: high, pages: p.Pages(), room: free.Room(p.Page())}
	s.count()
	return s
}

// count learns anew what the list has.
func (s *stock) count() {
	s.listed = setOf(s.list.All()...)
	s.free = len(s.list.Free())
}

func (s *stock) inUse(n int) bool { return n >= leastPage && n < s.high && !s.listed.has(n) }

// isContent tells whether a page is in use by whom the pager serves, not by the list.
func (s *stock) isContent(n int) bool { return s.inUse(n) && !s.chain.has(n) }

func (s *stock) take() (int, bool) {
	if n, ok := s.list.Take(); ok {
		delete(s.listed, n)
		s.free--
		return n, true
	}
	if s.high == s.pages {
		return 0, false
	}
	s.high++
	return s.high - 1, true
}

// give takes a page that is in use into the list: it waits with that number; with 0 it is free at once.
func (s *stock) give(n, txn int) {
	s.list.Give(n, txn)
	s.listed.add(n)
	if txn == 0 {
		s.free++
	}
}

func (s *stock) release(oldest int) { s.free += s.list.Release(oldest) }

// left is how many pages could be taken.
func (s *stock) left() int { return s.free + s.pages - s.high }

// affords tells whether takeChain would find its pages if n others were taken first. It counts what take would do, and takes none.
func (s *stock) affords(n int) bool {
	n = max(n, 0)
	if n > s.left() {
		return false
	}
	left, isFree := s.left()-n, max(s.free-n, 0)
	listed := len(s.listed) - s.free + isFree + len(s.chain)
	for taken := 0; listed > s.room*taken; taken++ {
		if left == 0 {
			return false
		}
		left--
		if isFree > 0 {
			isFree--
			listed--
		}
	}
	return true
}

// spare is the greatest n that affords takes. With each page more that is taken the list needs one page less at most: what is refused once is refused of all that is greater.
func (s *stock) spare() int {
	return sort.Search(s.left(), func(n int) bool { return !s.affords(n + 1) })
}

// takeChain takes the pages of the next list, rising. They must hold those of the last one, too.
func (s *stock) takeChain() (taken []int, e api.Errno) {
	high := s.high
	// A mark of the list would do, but each makes that of the transaction older.
	defer func() {
		if e != api.OK {
			s.putBack(taken, high)
		}
	}()
	for len(s.listed)+len(s.chain) > s.room*len(taken) {
		n, ok := s.take()
		if !ok {
			return taken, api.ErrFull
		}
		taken = append(taken, n)
	}
	return taken, api.OK
}

// putBack undoes the takes of these pages, the height having been that.
func (s *stock) putBack(taken []int, high int) {
	for _, n := range taken {
		if n < high {
			s.give(n, 0)
		}
	}
	s.high = high
}

// turn has the list's pages wait with that number, and the taken ones in their place.
func (s *stock) turn(taken []int, txn int) {
	for n := range s.chain {
		s.give(n, txn)
	}
	s.chain = setOf(taken...)
}

// point is how a stock stood.
type point struct {
	mark, high int
	chain      set // never changed: turn makes another one
}

func (s *stock) note() point { return point{mark: s.list.Mark(), high: s.high, chain: s.chain} }

func (s *stock) back(p point) {
	s.list.Back(p.mark)
	s.high, s.chain = p.high, p.chain
	s.count()
}
