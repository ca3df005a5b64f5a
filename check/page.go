package check

import (
	"sync"

	"espalier/api"
	"espalier/free"
	"espalier/meta"
	"espalier/node"
	"espalier/plate"
	"espalier/spill"
)

// page is what stands in a page of an image.
type page struct {
	kind   int        // 0: it is no good page of any
	engine int        // of a leaf or a branch
	cells  []api.Cell // of a leaf or a branch
	next   int        // of a page of a chain, or of the free list
	data   []byte     // of a page of a chain
	listed []int      // of a page of the free list
}

func (p page) isNode() bool { return p.kind == api.PageLeaf || p.kind == api.PageBranch }

// firstPage is the first one that is no meta page's.
const firstPage = 2

// workers is how many goroutines decode side by side.
const workers = 8

// decodedAll is what stands in the pages, from the first one that is no meta page's on, ahead of the end; by their numbers.
func decodedAll(image []byte, size, end int) []page {
	pages := make([]page, end)
	var all sync.WaitGroup
	for w := range workers {
		all.Add(1)
		go func() {
			defer all.Done()
			for n := firstPage + w; n < end; n += workers {
				pages[n] = decoded(bytesOf(image, size, n))
			}
		}()
	}
	all.Wait()
	return pages
}

func decoded(b []byte) page {
	if engine, kind, cells, e := node.Decode(b); e == api.OK {
		return page{kind: kind, engine: engine, cells: cells}
	}
	if next, data, e := spill.Decode(b); e == api.OK {
		return page{kind: api.PageSpill, next: next, data: data}
	}
	if next, listed, e := free.Decode(b); e == api.OK {
		return page{kind: api.PageFree, next: next, listed: listed}
	}
	if _, e := meta.Decode(b); e == api.OK {
		return page{kind: api.PageMeta}
	}
	return page{}
}

func bytesOf(image []byte, size, n int) []byte { return image[n*size : (n+1)*size] }

func isImage(image []byte, size int) bool {
	_, e := plate.Load(image, size)
	return e == api.OK
}
