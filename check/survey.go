package check

import (
	"espalier/api"
	"espalier/meta"
)

// Where a page stands.
const (
	nowhere = iota
	inUse
	ofTheList
	isListed
)

// place is a cell of a page, or what stands for one.
type place struct{ page, cell int }

// named is a tree that the catalog tells.
type named struct {
	root, count int
	by          place
}

// survey is an image that is gone through.
type survey struct {
	size   int
	meta   api.Meta
	metaAt int    // the meta's page
	pages  []page // those below High, by their numbers
	stands []int  // where each of them stands
	named  []named
	faults []api.Fault
}

// surveyed is an image that was gone through.
func surveyed(image []byte, size int) (*survey, api.Errno) {
	if !isImage(image, size) {
		return nil, api.ErrImage
	}
	m, at, e := meta.Choose(bytesOf(image, size, 0), bytesOf(image, size, 1))
	if e != api.OK || m.High > len(image)/size {
		return nil, api.ErrNoMeta
	}
	s := &survey{size: size, meta: m, metaAt: at, pages: decodedAll(image, size, m.High), stands: make([]int, m.High)}
	s.catalog()
	s.trees()
	s.list()
	s.lost()
	return s, api.OK
}

// whole is one in which nothing is wrong.
func whole(image []byte, size int) (*survey, api.Errno) {
	s, e := surveyed(image, size)
	if e != api.OK {
		return nil, e
	}
	if len(s.faults) > 0 {
		return nil, api.ErrLost
	}
	return s, api.OK
}

func (s *survey) say(what int, at place) {
	s.faults = append(s.faults, api.Fault{What: what, Page: at.page, Cell: at.cell})
}

// enter notes that a page stands there, where a place names it; false, if it may not.
func (s *survey) enter(page, as int, by place) bool {
	switch {
	case page < firstPage || page >= s.meta.High:
		s.say(api.BadRange, by)
		return false
	case s.stands[page] != nowhere:
		s.say(api.BadTwice, place{page, 0})
		return false
	}
	s.stands[page] = as
	return true
}

// unlike is said of a page of the list, or of a chain, that is none.
func (s *survey) unlike(page int) {
	what := api.BadKind
	if s.pages[page].kind == 0 {
		what = api.BadPage
	}
	s.say(what, place{page, 0})
}

// list goes through the free list.
func (s *survey) list() {
	listed, by := 0, place{s.metaAt, 0}
	for at := s.meta.Free; at != 0; {
		if !s.enter(at, ofTheList, by) {
			break
		}
		p := s.pages[at]
		if p.kind != api.PageFree {
			s.unlike(at)
			break
		}
		for i, n := range p.listed {
			s.enter(n, isListed, place{at, i})
		}
		listed += len(p.listed)
		by, at = place{at, 0}, p.next
	}
	if listed != s.meta.Listed {
		s.say(api.BadCount, place{s.metaAt, 1})
	}
}

func (s *survey) lost() {
	for _, n := range s.standing(nowhere) {
		s.say(api.BadLost, place{n, 0})
	}
}

// standing are the pages that stand there, rising.
func (s *survey) standing(where int) []int {
	var l []int
	for n := firstPage; n < s.meta.High; n++ {
		if s.stands[n] == where {
			l = append(l, n)
		}
	}
	return l
}
