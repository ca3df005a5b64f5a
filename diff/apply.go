package diff

import (
	"bytes"

	"espalier/api"
	"espalier/store"
)

// carryOut does one change, if the store stands as the change says that it was.
func carryOut(s *store.Store, c api.Change) api.Errno {
	switch {
	case !mayBe(c):
		return api.ErrArg
	case isOfTree(c):
		return carryOutTree(s, c)
	}
	return carryOutPair(s, c)
}

// isOfTree tells whether a change is of the tree itself.
func isOfTree(c api.Change) bool { return len(c.Key) == 0 }

// mayBe tells whether there may be such a change, in whichever store.
func mayBe(c api.Change) bool {
	if !c.Was && !c.Is || !c.Was && len(c.Old) > 0 || !c.Is && len(c.New) > 0 {
		return false
	}
	return !isOfTree(c) || c.Was != c.Is && len(c.Old) == 0 && len(c.New) == 0
}

func carryOutTree(s *store.Store, c api.Change) api.Errno {
	pairs, e := s.Len(c.Tree)
	if e != api.OK && e != api.ErrNoTree {
		return e
	}
	if is := e == api.OK; is != c.Was || pairs > 0 {
		return api.ErrOther
	}
	if c.Is {
		return s.Make(c.Tree)
	}
	return s.Drop(c.Tree)
}

func carryOutPair(s *store.Store, c api.Change) api.Errno {
	old, is, e := s.Get(c.Tree, c.Key)
	if e != api.OK {
		return e
	}
	if is != c.Was || !bytes.Equal(old, c.Old) {
		return api.ErrOther
	}
	if c.Is {
		_, e = s.Put(c.Tree, c.Key, c.New)
	} else {
		_, e = s.Delete(c.Tree, c.Key)
	}
	return e
}
