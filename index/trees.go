package index

import (
	"espalier/api"
	"espalier/tuple"
)

// definitions is the tree that tells which tables there are, and their indexes.
const definitions = "t-indexes"

func (t *Table) recordsTree() string { return "t/" + t.name }

func (t *Table) indexTree(index string) string { return "i/" + t.name + "/" + index }

// trees is the trees that are the table's own, with these indexes.
func (t *Table) trees(indexes []api.Index) []string {
	trees := []string{t.recordsTree()}
	for _, x := range indexes {
		trees = append(trees, t.indexTree(x.Name))
	}
	return trees
}

// hasTree tells whether there is such a tree in the grove.
func (t *Table) hasTree(tree string) (bool, api.Errno) {
	_, _, e := t.grove.Tree(tree)
	if e == api.ErrNoTree {
		return false, api.OK
	}
	return e == api.OK, e
}

// definition is what the grove has as the table's indexes; ErrTable, if there is no such table.
func (t *Table) definition() ([]byte, api.Errno) {
	if !isShortName(t.name) {
		return nil, api.ErrTable
	}
	b, is, e := t.grove.Get(definitions, []byte(t.name))
	switch {
	case e == api.ErrNoTree || e == api.OK && !is:
		return nil, api.ErrTable
	case e != api.OK:
		return nil, e
	}
	return b, api.OK
}

// indexes is the table's indexes; ErrTable, if there is no such table, or what the grove has as its indexes are none.
func (t *Table) indexes() ([]api.Index, api.Errno) {
	b, e := t.definition()
	if e != api.OK {
		return nil, e
	}
	indexes, are := readIndexes(b)
	if !are {
		return nil, api.ErrTable
	}
	return indexes, api.OK
}

// plant makes the table in the grove.
func (t *Table) plant(indexes []api.Index) api.Errno {
	trees := t.trees(indexes)
	if e := t.absent(trees); e != api.OK {
		return e
	}
	is, e := t.hasTree(definitions)
	if e != api.OK {
		return e
	}
	if !is {
		trees = append(trees, definitions)
	}
	if _, count := t.grove.Root(); count+len(trees) > api.MaxTrees {
		return api.ErrTrees
	}
	b, e := tuple.Encode(indexItems(indexes)...)
	if e != api.OK {
		return e
	}
	for _, tree := range trees {
		if e := t.grove.Make(tree); e != api.OK {
			return e
		}
	}
	_, e = t.grove.Put(definitions, []byte(t.name), b)
	return e
}

// absent answers ErrThere, if there is such a table, or one of these trees.
func (t *Table) absent(trees []string) api.Errno {
	switch _, e := t.definition(); e {
	case api.ErrTable:
	case api.OK:
		return api.ErrThere
	default:
		return e
	}
	for _, tree := range trees {
		is, e := t.hasTree(tree)
		if e != api.OK {
			return e
		}
		if is {
			return api.ErrThere
		}
	}
	return api.OK
}

func indexItems(indexes []api.Index) []api.Item {
	var items []api.Item
	for _, x := range indexes {
		var fields []api.Item
		for _, name := range x.Fields {
			fields = append(fields, textItem(name))
		}
		items = append(items, listItem(textItem(x.Name), truthItem(x.Unique), listItem(fields...)))
	}
	return items
}

func listItem(items ...api.Item) api.Item { return api.Item{Kind: api.List, List: items} }

func truthItem(is bool) api.Item {
	if is {
		return api.Item{Kind: api.True}
	}
	return api.Item{Kind: api.False}
}

// readIndexes reads what Make has written; false, if it is nothing that Make writes.
func readIndexes(b []byte) ([]api.Index, bool) {
	items, e := tuple.Decode(b)
	if e != api.OK {
		return nil, false
	}
	var indexes []api.Index
	for _, item := range items {
		x, is := readIndex(item)
		if !is {
			return nil, false
		}
		indexes = append(indexes, x)
	}
	if !areIndexes(indexes) {
		return nil, false
	}
	return indexes, true
}

func readIndex(item api.Item) (api.Index, bool) {
	if item.Kind != api.List || len(item.List) != 3 {
		return api.Index{}, false
	}
	name, unique, fields := item.List[0], item.List[1], item.List[2]
	if name.Kind != api.Text || unique.Kind != api.True && unique.Kind != api.False || fields.Kind != api.List {
		return api.Index{}, false
	}
	x := api.Index{Name: name.Text, Unique: unique.Kind == api.True}
	for _, field := range fields.List {
		if field.Kind != api.Text {
			return api.Index{}, false
		}
		x.Fields = append(x.Fields, field.Text)
	}
	return x, true
}
