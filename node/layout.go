package node

import (
	"espalier/api"
	"espalier/packed"
	"espalier/plain"
)

// layout is what an engine does.
type layout struct {
	size   func(kind int, cells []api.Cell) int
	encode func(kind int, cells []api.Cell, page int) ([]byte, api.Errno)
	decode func(b []byte) (int, []api.Cell, api.Errno)
	make   func(kind, page int) (Node, api.Errno)
	open   func(b []byte) (Node, api.Errno)
}

// layoutOf tells what that engine does; false, if there is no such engine.
func layoutOf(engine int) (layout, bool) {
	switch engine {
	case api.Plain:
		return layout{
			size:   plain.Size,
			encode: plain.Encode,
			decode: plain.Decode,
			make:   func(kind, page int) (Node, api.Errno) { return asNode(plain.New(kind, page)) },
			open:   func(b []byte) (Node, api.Errno) { return asNode(plain.Open(b)) },
		}, true
	case api.Packed:
		return layout{
			size:   packed.Size,
			encode: packed.Encode,
			decode: packed.Decode,
			make:   func(kind, page int) (Node, api.Errno) { return asNode(packed.New(kind, page)) },
			open:   func(b []byte) (Node, api.Errno) { return asNode(packed.Open(b)) },
		}, true
	}
	return layout{}, false
}

// asNode hands on what an engine answered. A nil page must become a nil Node: a Node that holds a nil page does not equal nil.
func asNode[P Node](p P, e api.Errno) (Node, api.Errno) {
	if e != api.OK {
		return nil, e
	}
	return p, api.OK
}

// engineOf is what stands where a page has its engine, whether there is such an engine or not.
func engineOf(b []byte) int {
	if len(b) < 2 {
		return 0
	}
	return int(b[1])
}

func (l layout) fits(kind int, cells []api.Cell, page int) bool {
	_, e := l.encode(kind, cells, page)
	return e == api.OK
}
