package check_test

import (
	"slices"
	"strings"

	"espalier/api"
	"espalier/free"
	"espalier/meta"
	"espalier/node"
	"espalier/spill"
)

// reader tells the faults of an image as the chapter's words have them, one after the other; each page is decoded when the words ask for it.
type reader struct {
	image  []byte
	size   int
	meta   api.Meta
	page   int // the meta's
	who    map[int]string
	faults []api.Fault
	names  []string
	trees  map[string][]string
}

func (r *reader) at(n int) []byte { return r.image[n*r.size : (n+1)*r.size] }

func (r *reader) fault(what, page, cell int) {
	r.faults = append(r.faults, api.Fault{What: what, Page: page, Cell: cell})
}

// good are the sorts of pages by which somebody takes a page.
func (r *reader) good(n int) (l []string) {
	if _, _, _, e := node.Decode(r.at(n)); e == api.OK {
		l = append(l, "node")
	}
	if _, e := meta.Decode(r.at(n)); e == api.OK {
		l = append(l, "meta")
	}
	if _, _, e := spill.Decode(r.at(n)); e == api.OK {
		l = append(l, "spill")
	}
	if _, _, e := free.Decode(r.at(n)); e == api.OK {
		l = append(l, "free")
	}
	return l
}

func (r *reader) isOneOf(n int, sorts ...string) bool {
	return slices.ContainsFunc(r.good(n), func(s string) bool { return slices.Contains(sorts, s) })
}

func (r *reader) entered(n int, as string, page, cell int) bool {
	if n < 2 || n >= r.meta.High {
		r.fault(6, page, cell)
		return false
	}
	if _, was := r.who[n]; was {
		r.fault(4, n, 0)
		return false
	}
	r.who[n] = as
	return true
}

// walked is what came of a tree: whether its page was entered and is a node, its entries.
type walked struct {
	is      bool
	entries int
}

// bound is a key, or none.
type bound struct {
	is  bool
	key string
}

// tree walks a tree; tell gets each cell of its leaves.
func (r *reader) tree(root, page, cell int, tell func(c api.Cell, page, cell int)) walked {
	firstDepth := -1
	var walk func(n, page, cell, depth int, lo, hi bound) walked
	walk = func(n, page, cell, depth int, lo, hi bound) walked {
		if !r.entered(n, "used", page, cell) {
			return walked{}
		}
		engine, kind, cells, e := node.Decode(r.at(n))
		if e != api.OK || engine != r.meta.Engine {
			if r.isOneOf(n, "meta", "spill", "free") {
				r.fault(3, n, 0)
			} else {
				r.fault(2, n, 0)
			}
			return walked{}
		}
		if len(cells) == 0 || len(cells) == 1 && (depth > 0 || kind == api.PageBranch) {
			r.fault(10, n, 0)
		}
		if kind == api.PageLeaf {
			if firstDepth < 0 {
				firstDepth = depth
			}
			if firstDepth != depth {
				r.fault(9, n, 0)
			}
			for i, c := range cells {
				if lo.is && string(c.Key) < lo.key || hi.is && string(c.Key) >= hi.key {
					r.fault(7, n, i)
				}
				tell(c, n, i)
			}
			return walked{true, len(cells)}
		}
		all := 0
		for i, c := range cells {
			key := string(c.Key)
			if i == 0 && key != "" || i > 0 && (lo.is && key <= lo.key || hi.is && key >= hi.key) {
				r.fault(7, n, i)
			}
			below, above := bound{true, key}, hi
			if i == 0 {
				below = lo
			}
			if i < len(cells)-1 {
				above = bound{true, string(cells[i+1].Key)}
			}
			w := walk(c.Page, n, i, depth+1, below, above)
			switch {
			case !w.is:
				all += c.Count
			case w.entries != c.Count:
				r.fault(8, n, i)
				all += w.entries
			default:
				all += w.entries
			}
		}
		return walked{true, all}
	}
	return walk(root, page, cell, 0, bound{}, bound{})
}

func (r *reader) chain(c api.Cell, page, cell int) []byte {
	var value []byte
	n, most := c.Page, spill.Pages(r.size, c.Count)
	for i := 1; i <= most; i++ {
		if !r.entered(n, "used", page, cell) {
			return nil
		}
		if r.isOneOf(n, "node", "meta", "free") {
			r.fault(3, n, 0)
			return nil
		}
		next, data, e := spill.Decode(r.at(n))
		if e != api.OK {
			r.fault(2, n, 0)
			return nil
		}
		must := r.size - 16
		if i == most {
			must = c.Count - (most-1)*must
		}
		if len(data) != must || i == most && next != 0 || i < most && next == 0 {
			r.fault(12, page, cell)
			return nil
		}
		value = append(value, data...)
		n = next
	}
	return value
}

// read goes through an image.
func read(image []byte, size int) *reader {
	r := &reader{image: image, size: size, who: map[int]string{}, trees: map[string][]string{}}
	var e api.Errno
	r.meta, r.page, e = meta.Choose(r.at(0), r.at(1))
	if e != api.OK || r.meta.High > len(image)/size {
		r.fault(1, 0, 0)
		return r
	}
	type named struct {
		api.Cell
		page, cell int
	}
	var trees []named
	if r.meta.Root != 0 {
		w := r.tree(r.meta.Root, r.page, 0, func(c api.Cell, page, cell int) {
			isName := c.Kind == api.CellTree && len(c.Key) >= 1 && len(c.Key) <= 64 && strings.Trim(string(c.Key), "abcdefghijklmnopqrstuvwxyz0123456789-_./") == ""
			if !isName {
				r.fault(11, page, cell)
				return
			}
			trees = append(trees, named{c, page, cell})
		})
		if w.is && w.entries != r.meta.Count {
			r.fault(8, r.page, 0)
		}
	}
	for _, n := range trees {
		name := string(n.Key)
		r.names = append(r.names, name)
		if n.Page == 0 {
			continue
		}
		w := r.tree(n.Page, n.page, n.cell, func(c api.Cell, page, cell int) {
			switch c.Kind {
			case api.CellValue:
				r.trees[name] = append(r.trees[name], string(c.Key)+"="+string(c.Value))
			case api.CellSpill:
				r.trees[name] = append(r.trees[name], string(c.Key)+"="+string(r.chain(c, page, cell)))
			default:
				r.fault(11, page, cell)
			}
		})
		if w.is && w.entries != n.Count {
			r.fault(8, n.page, n.cell)
		}
	}
	r.list()
	for n := 2; n < r.meta.High; n++ {
		if _, is := r.who[n]; !is {
			r.fault(5, n, 0)
		}
	}
	return r
}

func (r *reader) list() {
	count, from := 0, r.page
	for n := r.meta.Free; n > 0; {
		if !r.entered(n, "list", from, 0) {
			break
		}
		next, pages, e := free.Decode(r.at(n))
		if e != api.OK {
			if r.isOneOf(n, "node", "meta", "spill") {
				r.fault(3, n, 0)
			} else {
				r.fault(2, n, 0)
			}
			break
		}
		for i, p := range pages {
			count++
			r.entered(p, "listed", n, i)
		}
		from, n = n, next
	}
	if count != r.meta.Listed {
		r.fault(8, r.page, 1)
	}
}

// standing are the pages that stand there, rising.
func (r *reader) standing(as string) []int {
	var l []int
	for n, s := range r.who {
		if s == as {
			l = append(l, n)
		}
	}
	slices.Sort(l)
	return l
}
