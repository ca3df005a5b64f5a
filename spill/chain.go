package spill

import "espalier/api"

// take takes so many pages of the room.
func take(r api.Room, count int) ([]int, api.Errno) {
	var pages []int
	for range count {
		page, e := r.Alloc()
		if e != api.OK {
			return nil, e
		}
		pages = append(pages, page)
	}
	return pages, api.OK
}

// lay writes a value into pages that are just enough for it.
func lay(r api.Room, pages []int, value []byte) api.Errno {
	size := r.Size()
	for i, page := range pages {
		next := 0
		if i+1 < len(pages) {
			next = pages[i+1]
		}
		n := share(size, len(value))
		b, e := Encode(next, value[:n], size)
		if e != api.OK {
			return e
		}
		if e := r.Write(page, b); e != api.OK {
			return e
		}
		value = value[n:]
	}
	return api.OK
}

// share is how many of the bytes that are left the next page has.
func share(size, left int) int { return min(hold(size), left) }

// through goes through the chain of n bytes from first on, as far as the bytes ahead of the place to need it: the pages' numbers, and what they hold.
func through(r api.Room, first, n, to int) ([]int, []byte, api.Errno) {
	size := r.Size()
	var pages []int
	var data []byte
	var fault api.Errno
	at, all := first, Pages(size, n)
chain:
	for range Pages(size, to) {
		for _, earlier := range pages {
			if earlier == at {
				fault = api.ErrChain
				break chain
			}
		}
		next, part, e := load(r, at)
		if e != api.OK {
			fault = e
			break chain
		}
		pages = append(pages, at)
		isLast := len(pages) == all
		if len(part) != share(size, n-len(data)) || isLast != (next == 0) {
			fault = api.ErrChain
			break chain
		}
		data = append(data, part...)
		at = next
	}
	if fault != api.OK {
		return nil, nil, fault
	}
	return pages, data, api.OK
}

// load reads a page of the room: the next one, and its bytes.
func load(r api.Room, page int) (int, []byte, api.Errno) {
	b, e := r.Read(page)
	if e != api.OK {
		return 0, nil, e
	}
	if len(b) != r.Size() {
		return 0, nil, api.ErrCorrupt
	}
	return Decode(b)
}
