package store_test

import (
	"fmt"
	"strings"
	"testing"

	"espalier/api"
)

// scans holds a Scan of the tree "a", which has these pairs, against them, with any bounds and limits, either way.
func scans(t *testing.T, what string, l []pair, scan func(name string, lo, hi []byte, limit int, reverse bool) ([]api.Pair, api.Errno)) {
	t.Helper()
	bounds := []string{"", "\x00", "a", "zz", "\xff", strings.Repeat("k", 300)}
	for i, p := range l {
		if i%7 == 0 {
			bounds = append(bounds, p.key, p.key+"\x00", p.key[:len(p.key)-1])
		}
	}
	for _, lo := range bounds {
		for _, hi := range bounds {
			for _, limit := range []int{0, 1, 2, len(l) - 1, len(l), len(l) + 1, api.MaxLimit} {
				for _, reverse := range []bool{false, true} {
					if limit < 0 {
						continue
					}
					got, e := scan("a", []byte(lo), []byte(hi), limit, reverse)
					same(t, what+": Scan", e, api.OK)
					sameList(t, fmt.Sprintf("%s: Scan from %.20q to %.20q, %d, %v", what, lo, hi, limit, reverse), asPairs(got), within(l, lo, hi, limit, reverse))
				}
			}
		}
	}
	for _, limit := range []int{-1, -1 << 62, api.MaxLimit + 1, 1 << 62} {
		got, e := scan("a", nil, nil, limit, false)
		same(t, what+": a wrong limit", e == api.ErrArg && len(got) == 0, true)
		got, e = scan("none", nil, nil, limit, true)
		same(t, what+": a wrong limit, and no tree", e == api.ErrNoTree && len(got) == 0, true)
	}
	for _, limit := range []int{0, 1, api.MaxLimit} {
		got, e := scan("none", nil, nil, limit, false)
		same(t, what+": no tree", e == api.ErrNoTree && len(got) == 0, true)
	}
}

// P17.6: Scan with any bounds and limits, of the committed and of the working state.
func TestScan(t *testing.T) {
	for _, engine := range engines() {
		r := newRig(t, engine, 512, 400)
		r.begin()
		r.make("a")
		scans(t, "an empty tree", nil, r.s.Scan)
		for _, p := range numbered(60, 20) {
			r.put("a", p.key, p.value)
		}
		r.put("a", "\x00", long(3000, 'n'))
		r.put("a", "\xff\xff", "")
		scans(t, "within a transaction", r.working.rising("a"), r.s.Scan)
		r.commit()
		scans(t, "outside", r.committed.rising("a"), r.s.Scan)
	}
}

// P17.6: Rank, At and Get of any key and place.
func TestKeysAndPlaces(t *testing.T) {
	for _, engine := range engines() {
		for _, isBusy := range []bool{false, true} {
			r := newRig(t, engine, 512, 400)
			r.begin()
			r.make("a")
			r.make("none at all")
			r.make("void")
			for i, p := range numbered(50, 10) {
				r.put("a", p.key, long(i*11, 'v'))
			}
			if !isBusy {
				r.commit()
			}
			l := r.now().rising("a")
			keys := []string{"", "\x00", "a", "k", "k00000\x00", "k0001", "z", "\xff", strings.Repeat("\xff", 70000)}
			for _, p := range l {
				keys = append(keys, p.key, p.key+"x")
			}
			for _, key := range keys {
				want, is, value := 0, false, ""
				for _, p := range l {
					if p.key < key {
						want++
					}
					if p.key == key {
						is, value = true, p.value
					}
				}
				n, e := r.s.Rank("a", []byte(key))
				same(t, "Rank", e == api.OK && n == want, true)
				b, got, e := r.s.Get("a", []byte(key))
				same(t, "Get", e == api.OK && got == is && string(b) == value, true)
				n, e = r.s.Rank("void", []byte(key))
				same(t, "Rank in an empty tree", e == api.OK && n == 0, true)
			}
			for _, i := range []int{-1 << 63, -2, -1, 0, 1, 20, len(l) - 1, len(l), len(l) + 1, 1<<63 - 1} {
				p, is, e := r.s.At("a", i)
				want := pair{}
				if i >= 0 && i < len(l) {
					want = l[i]
				}
				same(t, "At", e, api.OK)
				same(t, fmt.Sprint("At ", i), is, i >= 0 && i < len(l))
				same(t, fmt.Sprint("At ", i), asPair(p), want)
				_, is, e = r.s.At("void", i)
				same(t, "At in an empty tree", e == api.OK && !is, true)
			}
			r.looks()
		}
	}
}

// P17.6: questions are of the working state within a transaction, and of the committed one outside, behind a Rollback too.
func TestWhichState(t *testing.T) {
	for _, engine := range engines() {
		r := lived(t, engine, 512)
		for round := range 3 {
			r.looks()
			r.begin()
			r.looks()
			r.put("a", "new", long(200*round, 'n'))
			r.looks()
			r.load("b/c", numbered(10, 100)...)
			r.drop("empty")
			r.looks()
			r.make("empty")
			r.make("other")
			r.delete("a", "new")
			r.looks()
			if round < 2 {
				r.rollback()
			} else {
				r.commit()
			}
			r.looks()
		}
		r.whole()
	}
}

// P17.12: questions, Txn and Meta change nothing: neither on the device nor in what a transaction finds.
func TestQuestionsChangeNothing(t *testing.T) {
	for _, engine := range engines() {
		for _, isBusy := range []bool{false, true} {
			var images [2]string
			for asks := range 2 {
				r, v := stood(t, engine, isBusy)
				image, counts := string(r.p.Image()), r.p.Counts()
				if asks == 1 {
					for range 30 {
						r.looks()
						viewed(t, "meanwhile", v, r.committed)
						r.s.Txn()
						v.Meta()
					}
				}
				same(t, "the device", string(r.p.Image()) == image, true)
				same(t, "acts", r.p.Counts().Writes+r.p.Counts().Syncs, counts.Writes+counts.Syncs)
				if !isBusy {
					r.begin()
				}
				r.put("a", "k", long(3000, 'k'))
				r.make("other")
				r.commit()
				r.whole()
				images[asks] = string(r.p.Image())
			}
			same(t, "what is committed with questions, and without", images[0] == images[1], true)
		}
	}
}
