package diff

import (
	"iter"
	"slices"

	"espalier/api"
	"espalier/grove"
	"espalier/store"
)

// look is what is asked of a view while it is gone through. The view itself is not asked meanwhile: once closed it would have no grove.
type look struct {
	room  api.Room
	grove *grove.Grove
	names []string
}

// looks are two looks at one store: where changes lead from, and to.
type looks struct{ from, to look }

// looksOf is the looks of two views, or the error by which these are refused.
func looksOf(a, b *store.View) (looks, api.Errno) {
	switch {
	case a == nil || b == nil:
		return looks{}, api.ErrArg
	case !a.Kin(b):
		return looks{}, api.ErrOther
	}
	from, e := lookOf(a)
	if e != api.OK {
		return looks{}, e
	}
	to, e := lookOf(b)
	if e != api.OK {
		return looks{}, e
	}
	return looks{from, to}, api.OK
}

func lookOf(v *store.View) (look, api.Errno) {
	names, e := v.Names()
	if e != api.OK {
		return look{}, e
	}
	return look{room: v.Room(), grove: v.Grove(), names: names}, api.OK
}

func (l look) has(name string) bool { return slices.Contains(l.names, name) }

// root is that of a tree; 0, as of an empty one, if it is not there.
func (l look) root(name string) (int, api.Errno) {
	if !l.has(name) {
		return 0, api.OK
	}
	root, _, e := l.grove.Tree(name)
	return root, e
}

// names is first the trees that are there no more, then all others.
func (l looks) names() []string {
	gone := slices.DeleteFunc(slices.Clone(l.from.names), l.to.has)
	return append(gone, l.to.names...)
}

// tree tells what differs in one tree.
func (l looks) tree(name string) iter.Seq2[api.Change, api.Errno] {
	return func(yield func(api.Change, api.Errno) bool) {
		if !l.from.has(name) && !yield(api.Change{Tree: name, Is: true}, api.OK) {
			return
		}
		for c, e := range l.pairs(name) {
			if !yield(c, e) || e != api.OK {
				return
			}
		}
		if !l.to.has(name) {
			yield(api.Change{Tree: name, Was: true}, api.OK)
		}
	}
}

// pairs tells what differs in the pairs of one tree.
func (l looks) pairs(name string) iter.Seq2[api.Change, api.Errno] {
	return func(yield func(api.Change, api.Errno) bool) {
		p, e := l.parted(name)
		if e != api.OK {
			yield(api.Change{}, e)
			return
		}
		for m, e := range p.meetings() {
			var c api.Change
			if e == api.OK {
				c, e = l.change(name, m)
			}
			if isNone(c) {
				continue
			}
			if !yield(c, e) || e != api.OK {
				return
			}
		}
	}
}

// parted is where the two trees of that name part.
func (l looks) parted(name string) (parting, api.Errno) {
	from, e := l.from.root(name)
	if e != api.OK {
		return parting{}, e
	}
	to, e := l.to.root(name)
	if e != api.OK {
		return parting{}, e
	}
	return l.part(from, to)
}
