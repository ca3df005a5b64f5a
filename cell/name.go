package cell

import "espalier/api"

// IsName tells whether a tree may have that name, which is a cell's key in the catalog: see shared/doc/15-grove.md, section Words.
func IsName(name string) bool {
	if len(name) == 0 || len(name) > api.MaxName {
		return false
	}
	for i := range len(name) {
		if !isOfNames(name[i]) {
			return false
		}
	}
	return true
}

func isOfNames(b byte) bool {
	switch b {
	case '-', '_', '.', '/':
		return true
	}
	return b >= 'a' && b <= 'z' || b >= '0' && b <= '9'
}
