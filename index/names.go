package index

import (
	"slices"

	"espalier/api"
)

const (
	mostShort   = 30 // bytes of a short name: with two of them a tree's name is one still
	mostIndexes = 16
	mostOfIndex = 8  // fields of an index
	mostFields  = 32 // fields of a record: with their names as many items as a tuple may have
)

// wordOfKeys is what questions call a record's key, so that no field may be called so.
const wordOfKeys = "key"

// isShortName tells whether a table, or an index, may have that name.
func isShortName(name string) bool { return isWord(name, mostShort) }

// isFieldName tells whether a field may have that name.
func isFieldName(name string) bool {
	return isWord(name, api.MaxName) && isLetter(name[0]) && name != wordOfKeys
}

func isWord(name string, most int) bool {
	if len(name) == 0 || len(name) > most {
		return false
	}
	for i := range len(name) {
		if !isOfWords(name[i]) {
			return false
		}
	}
	return true
}

func isOfWords(b byte) bool {
	switch b {
	case '-', '_', '.':
		return true
	}
	return isLetter(b) || b >= '0' && b <= '9'
}

func isLetter(b byte) bool { return b >= 'a' && b <= 'z' }

// areIndexes tells whether a table may have these indexes.
func areIndexes(indexes []api.Index) bool {
	if len(indexes) > mostIndexes {
		return false
	}
	for i, x := range indexes {
		if !isIndex(x) || named(indexes[:i], x.Name) {
			return false
		}
	}
	return true
}

func isIndex(x api.Index) bool {
	if !isShortName(x.Name) || len(x.Fields) == 0 || len(x.Fields) > mostOfIndex {
		return false
	}
	for i, name := range x.Fields {
		if !isFieldName(name) || slices.Contains(x.Fields[:i], name) {
			return false
		}
	}
	return true
}

// named tells whether one of the indexes has that name.
func named(indexes []api.Index, name string) bool {
	return slices.ContainsFunc(indexes, func(x api.Index) bool { return x.Name == name })
}
