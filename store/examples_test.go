package store_test

import (
	"strings"
	"testing"

	"espalier/api"
	"espalier/plate"
	"espalier/store"
)

// The chapter's table, row by row, in both engines.
func TestExamples(t *testing.T) {
	for _, engine := range engines() {
		p := plate.New(512, 400)
		s := rowOfOpen(t, p, engine)
		rowOfNoTxn(t, s)
		rowOfBegin(t, s)
		rowOfRefusedPuts(t, s)
		rowOfPuts(t, s)
		v := rowOfView(t, s)
		rowOfLoad(t, s)
		rowOfPlaces(t, s)
		rowOfRollback(t, s)
		rowOfClose(t, s, v)
	}
}

func rowOfOpen(t *testing.T, p *plate.Plate, engine int) *store.Store {
	s, e := store.Open(nil, api.Plain)
	same(t, "Open(nil, Plain)", s == nil && e == api.ErrArg, true)
	s = opened(t, p, engine)
	same(t, "Txn", s.Txn(), 0)
	none, e := store.Open(p, 7)
	same(t, "Open(p, 7)", none == nil && e == api.ErrEngine, true)
	return s
}

func rowOfNoTxn(t *testing.T, s *store.Store) {
	_, e := s.Put("a", []byte("k"), []byte("v"))
	same(t, "Put", e, api.ErrNoTxn)
	_, e = s.Commit()
	same(t, "Commit", e, api.ErrNoTxn)
	same(t, "Rollback", s.Rollback(), api.ErrNoTxn)
}

func rowOfBegin(t *testing.T, s *store.Store) {
	same(t, "Begin", s.Begin(), api.OK)
	same(t, "Begin again", s.Begin(), api.ErrBusy)
	same(t, "Make a", s.Make("a"), api.OK)
	same(t, "Make a again", s.Make("a"), api.ErrThere)
	same(t, "Make A", s.Make("A"), api.ErrName)
}

func rowOfRefusedPuts(t *testing.T, s *store.Store) {
	_, e := s.Put("a", nil, []byte("v"))
	same(t, "Put of no key", e, api.ErrSize)
	_, e = s.Put("a", make([]byte, 65), []byte("v"))
	same(t, "Put of 65 bytes", e, api.ErrSize)
	_, e = s.Put("b", nil, []byte("v"))
	same(t, "Put in no tree", e, api.ErrNoTree)
}

func rowOfPuts(t *testing.T, s *store.Store) {
	was, e := s.Put("a", []byte("k"), []byte("1"))
	same(t, "Put k 1", !was && e == api.OK, true)
	value := strings.Repeat("x", 200)
	was, e = s.Put("a", []byte("k"), []byte(value))
	same(t, "Put k, 200 bytes", was && e == api.OK, true)
	got, is, e := s.Get("a", []byte("k"))
	same(t, "Get k", string(got) == value && is && e == api.OK, true)
}

func rowOfView(t *testing.T, s *store.Store) *store.View {
	v, e := s.View()
	same(t, "View", e, api.OK)
	same(t, "its commit", v.Txn(), 0)
	n, e := s.Commit()
	same(t, "Commit", n == 1 && e == api.OK, true)
	names, e := v.Names()
	same(t, "v.Names", len(names) == 0 && e == api.OK, true)
	names, e = s.Names()
	same(t, "Names", strings.Join(names, " ") == "a" && e == api.OK, true)
	return v
}

func rowOfLoad(t *testing.T, s *store.Store) {
	same(t, "Begin", s.Begin(), api.OK)
	_, e := s.Load("a", raw(pair{"z", ""}, pair{"y", ""}))
	same(t, "Load z and y", e, api.ErrSorted)
	n, e := s.Load("a", raw(pair{"y", "1"}, pair{"z", "2"}))
	same(t, "Load y and z", n == 2 && e == api.OK, true)
	l, e := s.Scan("a", nil, nil, 5, true)
	same(t, "Scan", e, api.OK)
	sameList(t, "Scan", asPairs(l), []pair{{"z", "2"}, {"y", "1"}})
}

func rowOfPlaces(t *testing.T, s *store.Store) {
	n, e := s.Rank("a", []byte("z"))
	same(t, "Rank z", n == 1 && e == api.OK, true)
	p, is, e := s.At("a", 1)
	same(t, "At 1", asPair(p) == pair{"z", "2"} && is && e == api.OK, true)
	_, is, e = s.At("a", 2)
	same(t, "At 2", !is && e == api.OK, true)
	was, e := s.Delete("a", []byte("x"))
	same(t, "Delete x", !was && e == api.OK, true)
}

func rowOfRollback(t *testing.T, s *store.Store) {
	same(t, "Rollback", s.Rollback(), api.OK)
	n, e := s.Len("a")
	same(t, "Len", n == 1 && e == api.OK, true)
	_, e = s.Scan("a", nil, nil, -1, false)
	same(t, "Scan of -1", e, api.ErrArg)
}

func rowOfClose(t *testing.T, s *store.Store, v *store.View) {
	same(t, "Close", s.Close(), api.OK)
	same(t, "Close again", s.Close(), api.ErrClosed)
	_, e := s.Names()
	same(t, "Names", e, api.ErrClosed)
	_, e = v.Names()
	same(t, "v.Names", e, api.ErrView)
	same(t, "v.Txn", v.Txn(), 0)
}

// What DOC.md tells of stores among its examples of the whole: 2, 4, 5, 6 and 7.
func TestExamplesOfTheWhole(t *testing.T) {
	for _, engine := range engines() {
		r := newRig(t, engine, 512, 400)
		want := "\x01" + string(rune(engine)) + "\x00\x00ESPL\x00\x00\x02\x00" + strings.Repeat("\x00", 24) + "\x00\x00\x00\x02" + strings.Repeat("\x00", 468)
		same(t, "a new store's meta page", string(r.p.Image()[:508]), want)
		same(t, "all else", strings.Trim(string(r.p.Image()[512:]), "\x00"), "")
		r.begin()
		r.make("a")
		r.put("a", "k", "v")
		r.put("a", "l", "\x00\xff")
		r.commit()
		r.looks()
		v, e := r.s.View()
		same(t, "View", e, api.OK)
		r.begin()
		r.put("a", "k", "w")
		r.commit()
		l, e := v.Scan("a", nil, nil, 1, false)
		same(t, "the view", e == api.OK && len(l) == 1 && asPair(l[0]) == pair{"k", "v"}, true)
		r.looks()
		r.begin()
		r.delete("a", "l")
		r.rollback()
		r.looks()
		v.Close()
		before := r.used()
		r.begin()
		r.put("a", "m", long(600, 'm'))
		r.commit()
		same(t, "a value of 600 bytes takes two pages more", r.used()-before, 2)
	}
}

// used is how many pages the trees and values take.
func (r *rig) used() int {
	r.t.Helper()
	v, e := r.s.View()
	must(r.t, "View", e)
	defer v.Close()
	m := v.Meta()
	n := m.High - 2 - m.Listed
	for page := m.Free; page != 0; n-- {
		b, e := v.Room().Read(page)
		must(r.t, "a page of the list", e)
		page = int(b[4])<<24 | int(b[5])<<16 | int(b[6])<<8 | int(b[7])
	}
	return n
}
