package store_test

import (
	"fmt"
	"strings"
	"testing"

	"espalier/api"
	"espalier/plate"
	"espalier/store"
)

// rot lays a page of other bytes, safe.
func rot(t *testing.T, p *plate.Plate, n int, b []byte) {
	t.Helper()
	must(t, "Write", p.Write(n, b))
	must(t, "Sync", p.Sync())
}

// deep is a store whose tree has several levels, and its pages hold few cells.
func deep(t *testing.T, engine int) *rig {
	t.Helper()
	r := newRig(t, engine, 512, 600)
	r.begin()
	r.make("a")
	r.make("b")
	for i := range 150 {
		r.put("a", fmt.Sprintf("%03d%s", i*71%150, strings.Repeat(string(rune('a'+i%26)), 61)), long(90+i%9, byte(i)))
	}
	r.put("b", "k", "1")
	r.commit()
	return r
}

// R1, R4 and the chapter's way: a change that meets a rotten page ahead of its first act is refused, and the working state is what it was; one that ends in its midst gives the transaction up, and nothing of it is left.
func TestRottenPages(t *testing.T) {
	for _, engine := range engines() {
		r := deep(t, engine)
		_, m, _ := surveyed(r.p.Image(), 512, engine)
		refused, given := 0, 0
		for n := 2; n < m.High; n++ {
			good, _ := r.p.Read(n)
			rot(t, r.p, n, []byte(long(512, 9)))
			s, e := store.Open(r.p, engine)
			if e != api.OK {
				same(t, "a page of the list", e, api.ErrCorrupt)
				rot(t, r.p, n, good)
				continue
			}
			r.s = s
			must(t, "Begin", r.s.Begin())
			left := len(r.committed["a"])
			for _, p := range r.committed.rising("a") {
				was, e := r.s.Delete("a", []byte(p.key))
				if e == api.OK {
					left--
					continue
				}
				same(t, "Delete refused", was, false)
				if _, e := r.s.Grove(); e == api.ErrNoTxn {
					given++
					same(t, "Rollback of what was given up", r.s.Rollback(), api.ErrNoTxn)
					_, e := r.s.Commit()
					same(t, "Commit of what was given up", e, api.ErrNoTxn)
				} else {
					refused++
					same(t, "Begin", r.s.Begin(), api.ErrBusy)
					k, e := r.s.Len("a")
					same(t, "what is left", e != api.OK || k == left, true)
					same(t, "Rollback", r.s.Rollback(), api.OK)
				}
				break
			}
			r.s.Rollback()
			rot(t, r.p, n, good)
			r.looks()
			r.begin()
			r.put("b", "k", fmt.Sprint(n))
			r.commit()
			r.whole()
			_, m, _ = surveyed(r.p.Image(), 512, engine)
		}
		same(t, fmt.Sprint("changes refused ", refused, ", given up ", given), refused > 10 && given > 0, true)
	}
}

// R1: of devices with any bytes behind good meta pages each call ends, and none panics.
func TestAnyBytes(t *testing.T) {
	t.Parallel()
	for _, engine := range engines() {
		r := deep(t, engine)
		image := r.p.Image()
		x := chance(31)
		calls := allCalls()
		names := sortedCalls(calls)
		for round := range 250 {
			spoilt := append([]byte(nil), image...)
			for range 1 + x.Intn(4) {
				from, to := 1024+512*x.Intn(200), 1024+512*x.Intn(200)
				switch x.Intn(3) {
				case 0:
					copy(spoilt[to:to+512], spoilt[from:from+512]) // a good page in a wrong place
				case 1:
					spoilt[to+x.Intn(512)] ^= byte(1 + x.Intn(255))
				case 2:
					copy(spoilt[to:to+512], long(512, byte(round)))
				}
			}
			p := loaded(t, spoilt, 512)
			s, e := store.Open(p, engine)
			if e != api.OK {
				continue
			}
			v, _ := s.View()
			for range 60 {
				calls[names[x.Intn(len(names))]](s, v)
				s.Put("a", []byte(r.committed.rising("a")[x.Intn(150)].key), []byte(long(x.Intn(300), 'x')))
				s.Delete("a", []byte(r.committed.rising("a")[x.Intn(150)].key))
			}
			s.Close()
		}
	}
}

// R4: a question that meets a rotten page answers an error, and nothing beside it; one that does not meet it is answered.
func TestQuestionsToRottenPages(t *testing.T) {
	for _, engine := range engines() {
		r := deep(t, engine)
		_, m, _ := surveyed(r.p.Image(), 512, engine)
		l := r.committed.rising("a")
		met, told := 0, 0
		for n := 2; n < m.High; n++ {
			good, _ := r.p.Read(n)
			rot(t, r.p, n, []byte(long(512, 9)))
			v, e := r.s.View()
			must(t, "View", e)
			for _, q := range []asks{r.s, v} {
				for _, limit := range []int{1, 40, 1000} {
					got, e := q.Scan("a", nil, nil, limit, false)
					if e != api.OK {
						met++
						same(t, "pairs beside an error", len(got), 0)
						continue
					}
					told++
					sameList(t, "Scan", asPairs(got), within(l, "", "", limit, false))
				}
				b, is, e := q.Get("a", []byte(l[70].key))
				same(t, "Get", e == api.OK && is && string(b) == l[70].value || e != api.OK && !is && len(b) == 0, true)
			}
			v.Close()
			rot(t, r.p, n, good)
		}
		same(t, fmt.Sprint("Scans that met it ", met, ", and that did not ", told), met > 50 && told > 50, true)
		r.looks()
	}
}
