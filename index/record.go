package index

import (
	"slices"
	"strings"

	"espalier/api"
	"espalier/tuple"
)

// recordBytes is the key's and the value's bytes of a record; the error says that it may not be.
func recordBytes(r api.Record) (key, value []byte, e api.Errno) {
	key, e = tuple.Encode(r.Key)
	if e != api.OK {
		return nil, nil, e
	}
	if !areFields(r.Fields) {
		return nil, nil, api.ErrField
	}
	value, e = tuple.Encode(valueItems(r.Fields)...)
	if e != api.OK {
		return nil, nil, e
	}
	return key, value, api.OK
}

// areFields tells whether a record may have fields of these names.
func areFields(fields []api.Field) bool {
	if len(fields) > mostFields {
		return false
	}
	for i, f := range fields {
		if !isFieldName(f.Name) || i > 0 && fields[i-1].Name >= f.Name {
			return false
		}
	}
	return true
}

func valueItems(fields []api.Field) []api.Item {
	var items []api.Item
	for _, f := range fields {
		items = append(items, textItem(f.Name), f.Item)
	}
	return items
}

func textItem(text string) api.Item { return api.Item{Kind: api.Text, Text: text} }

// recordOf is the record that stands there as a pair; ErrField, if that is none's.
func recordOf(p api.Pair) (api.Record, api.Errno) {
	key, e := tuple.Decode(p.Key)
	if e != api.OK || len(key) != 1 {
		return api.Record{}, api.ErrField
	}
	items, e := tuple.Decode(p.Value)
	if e != api.OK || len(items)%2 != 0 {
		return api.Record{}, api.ErrField
	}
	r := api.Record{Key: key[0]}
	for pair := range slices.Chunk(items, 2) {
		if pair[0].Kind != api.Text {
			return api.Record{}, api.ErrField
		}
		r.Fields = append(r.Fields, api.Field{Name: pair[0].Text, Item: pair[1]})
	}
	if !areFields(r.Fields) {
		return api.Record{}, api.ErrField
	}
	return r, api.OK
}

// itemsIn is a record's items in an index's fields, in their order.
func itemsIn(x api.Index, r api.Record) []api.Item {
	var items []api.Item
	for _, name := range x.Fields {
		items = append(items, itemIn(name, r))
	}
	return items
}

func itemIn(name string, r api.Record) api.Item {
	i, is := slices.BinarySearchFunc(r.Fields, name, func(f api.Field, name string) int { return strings.Compare(f.Name, name) })
	if !is {
		return api.Item{Kind: api.Null}
	}
	return r.Fields[i].Item
}

// hasNull tells whether a record with these items is alike with no other one.
func hasNull(items []api.Item) bool {
	return slices.ContainsFunc(items, func(item api.Item) bool { return item.Kind == api.Null })
}
