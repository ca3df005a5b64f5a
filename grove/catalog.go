package grove

import "espalier/api"

// catalog is the tree that tells where the others are.
type catalog struct{ trunk }

// tree is the tree of that name.
func (c *catalog) tree(name string) (*named, api.Errno) {
	told, is, e := c.find([]byte(name))
	switch {
	case e != api.OK:
		return nil, e
	case !is:
		return nil, api.ErrNoTree
	case told.Kind != api.CellTree:
		return nil, api.ErrTree
	}
	return &named{trunk{room: c.room, root: told.Page, count: told.Count}, name}, api.OK
}

// enter tells where a tree is now.
func (c *catalog) enter(t *named) api.Errno {
	return c.lay(api.Cell{Key: []byte(t.name), Kind: api.CellTree, Page: t.root, Count: t.count})
}

func (c *catalog) names() ([]string, api.Errno) {
	var names []string
	for told, e := range c.cells(nil, nil, false) {
		if e != api.OK {
			return nil, e
		}
		// What is no good catalog may lead to the same page over and over.
		if len(names) == api.MaxTrees {
			return nil, api.ErrTree
		}
		names = append(names, string(told.Key))
	}
	return names, api.OK
}
