package pager

// set is numbers of pages.
type set map[int]struct{}

func setOf(pages ...int) set {
	s := make(set, len(pages))
	for _, n := range pages {
		s.add(n)
	}
	return s
}

func (s set) has(n int) bool {
	_, ok := s[n]
	return ok
}

func (s set) add(n int) { s[n] = struct{}{} }
