package cache

import "espalier/api"

// fetch has page n held and used now, as a hit or a miss. Who goes is known ahead of the Read, for a Read is not asked where there can be no room.
func (c *Cache) fetch(n int) (*link[frame], api.Errno) {
	if l := c.held[n]; l != nil {
		c.row.renew(l)
		c.hits++
		return l, api.OK
	}
	goes, e := c.leaver()
	if e != api.OK {
		return nil, e
	}
	b, e := c.device.Read(n)
	if e != api.OK {
		return nil, e
	}
	if e := c.evict(goes); e != api.OK {
		return nil, e
	}
	c.misses++
	return c.hold(n, b), api.OK
}

// leaver tells which page goes when room is made: nil while a frame is empty.
func (c *Cache) leaver() (*link[frame], api.Errno) {
	if len(c.held) < c.frames {
		return nil, api.OK
	}
	for l := c.row.oldest; l != nil; l = l.younger {
		if l.value.pins == 0 {
			return l, api.OK
		}
	}
	return nil, api.ErrPinned
}

// makeRoom has a frame empty.
func (c *Cache) makeRoom() api.Errno {
	goes, e := c.leaver()
	if e != api.OK {
		return e
	}
	return c.evict(goes)
}

// evict has go what leaver told, written first if it is dirty.
func (c *Cache) evict(l *link[frame]) api.Errno {
	if l == nil {
		return api.OK
	}
	if e := c.clean(l); e != api.OK {
		return e
	}
	c.release(l)
	c.evicted++
	return api.OK
}

// clean writes a page that is dirty; it stays so if the device refuses.
func (c *Cache) clean(l *link[frame]) api.Errno {
	if !l.value.dirty {
		return api.OK
	}
	if e := c.device.Write(l.value.page, l.value.bytes); e != api.OK {
		return e
	}
	l.value.dirty = false
	return api.OK
}

// hold has an empty frame hold page n, used now. The bytes are the cache's own from here on.
func (c *Cache) hold(n int, own []byte) *link[frame] {
	l := &link[frame]{value: frame{page: n, bytes: own}}
	c.held[n] = l
	c.row.add(l)
	return l
}

// release empties the frame of a page.
func (c *Cache) release(l *link[frame]) {
	delete(c.held, l.value.page)
	c.row.remove(l)
}
