package index_test

import (
	"bytes"
	"fmt"
	"slices"
	"testing"

	"espalier/api"
)

// bounds is bytes from which, and ahead of which, ranges of an index may go: none, each entry, just ahead of it and just behind it, its beginnings, and what is ahead of all and behind all.
func (b *bed) bounds(x *api.Index) []string {
	l := []string{"", "\x00", "\x10", "\x11", "\x13", "\x16", "\xff", "\xff\xff\xff", long(100, 'z')}
	_, at := b.rising(x)
	for i, entry := range at {
		last := len(entry) - 1
		l = append(l, entry)
		if i%4 == 0 {
			l = append(l, entry+"\x00", entry[:last], entry[:last]+string([]byte{entry[last] - 1, 0xff}), entry[:last/2])
		}
	}
	slices.Sort(l)
	return slices.Compact(l)
}

// P19.6: ranges by each index, and by the keys, both ways, open and not, from and to wherever.
func TestScan(t *testing.T) {
	t.Parallel()
	for _, engine := range engines() {
		b := newBed(t, "Scan", engine, 512, 1000, by("x", "a"), alone("y", "b"), by("z", "a", "b"), by("null", "none"))
		for i := range int64(9) {
			b.put(rec(num(i*5%9-3), "a", num(i%3), "b", word(fmt.Sprint(i*7%9))))
		}
		b.put(rec(word("k"), "a", null()), rec(null()), rec(list(num(1)), "a", list(), "b", list(list())))
		for i := range len(b.indexes) + 1 {
			var x *api.Index
			if i > 0 {
				x = &b.indexes[i-1]
			}
			for _, lo := range b.bounds(x) {
				for _, hi := range b.bounds(x) {
					b.scans("Scan", x, lo, hi, false)
				}
				b.scans("Scan", x, lo, "", true)
				// What hi is counts for nothing, where the range is open.
				b.scans("Scan", x, lo, "\x10", true)
			}
		}
	}
}

// P19.6: of an empty table, and of one with a single record.
func TestScanOfFew(t *testing.T) {
	for _, engine := range engines() {
		b := newBed(t, "few", engine, 512, 400, by("x", "a"))
		for range 2 {
			for _, x := range []*api.Index{nil, &b.indexes[0]} {
				for _, lo := range []string{"", "\x10", "\x13\x81\x01", "\x13\x81\x02", "\xff"} {
					for _, hi := range []string{"", "\x10", "\x13\x81\x01", "\x13\x81\x01\x00", "\xff"} {
						b.scans("few", x, lo, hi, false)
						b.scans("few", x, lo, hi, true)
					}
				}
			}
			b.put(rec(num(1), "a", num(1)))
		}
	}
}

// P19.6: ErrIndex, also where hi is empty, where lo is behind all, and where there is no record.
func TestScanOfNoIndex(t *testing.T) {
	for _, engine := range engines() {
		b := newBed(t, "no index", engine, 512, 400, by("x", "a"))
		for range 2 {
			for _, name := range []string{"y", "X", "xx", "i/p/x", "t/p", "p", "key", "a", " ", "x/", long(31, 'x'), long(70000, 'x'), "\x00"} {
				for _, open := range []bool{false, true} {
					for _, reverse := range []bool{false, true} {
						for _, hi := range []string{"", "\xff"} {
							count := 0
							for r, e := range b.x.Scan(name, []byte("\xff"), []byte(hi), open, reverse) {
								count++
								same(t, fmt.Sprintf("Scan of %.40q", name), form(r)+fmt.Sprint(e), form(api.Record{})+"193")
							}
							same(t, fmt.Sprintf("Scan of %.40q: how often", name), count, 1)
						}
					}
				}
			}
			b.put(rec(num(1), "a", num(1)))
		}
		for range b.x.Scan("none", nil, nil, true, false) {
			break
		}
	}
}

// P19.6: a range may be left wherever, and is read no further then.
func TestScanThatIsLeft(t *testing.T) {
	for _, engine := range engines() {
		b := stocked(t, "left", engine)
		for i := range len(b.indexes) + 1 {
			var x *api.Index
			name := ""
			if i > 0 {
				x = &b.indexes[i-1]
				name = x.Name
			}
			want := b.between(x, "", "", true)
			all := b.x.Scan(name, nil, nil, true, false)
			read := 0
			for most := 1; most <= len(want); most++ {
				from := len(b.room.acts)
				var l []api.Record
				for r, e := range all {
					same(t, "Scan", e, api.OK)
					l = append(l, r)
					if len(l) == most {
						break
					}
				}
				sameList(t, "a range that is left", forms(l), want[:most])
				same(t, "no fewer reads the later it is left", len(b.room.acts)-from >= read, true)
				read = len(b.room.acts) - from
				if most == 1 {
					same(t, "few reads for one record", read < 30, true)
				}
			}
		}
	}
}

// P19.6, R7: an iterator may be ranged over again, and within its own range, or those of others, and tells then what there is then.
func TestScanAgainAndWithin(t *testing.T) {
	for _, engine := range engines() {
		b := newBed(t, "again", engine, 512, 1000, by("x", "a"), by("y", "b"))
		all, back, keys := b.x.Scan("x", nil, nil, true, false), b.x.Scan("y", nil, nil, true, true), b.x.Scan("", []byte("\x13\x82"), nil, true, false)
		for i := range int64(8) {
			b.put(rec(num(i*100), "a", num(i*3%8), "b", num(i*5%8)))
			want, backWant := b.between(&b.indexes[0], "", "", true), b.between(&b.indexes[1], "", "", true)
			slices.Reverse(backWant)
			n := 0
			for r := range all {
				same(t, "the outer range", form(r), want[n])
				n++
				m := 0
				for s := range all {
					same(t, "a range within its own", form(s), want[m])
					if m++; m == n {
						break
					}
				}
				l, e := told(back)
				same(t, "another within it", e, api.OK)
				sameList(t, "another within it", forms(l), backWant)
				l, e = told(keys)
				same(t, "by keys within it", e, api.OK)
				sameList(t, "by keys within it", forms(l), b.between(nil, "\x13\x82", "", true))
				b.gone("a look within it", num(-1))
			}
			same(t, "how many", n, len(want))
		}
	}
}

// P19.6: lo and hi count as they are at the call.
func TestBoundsThatAreWrittenOver(t *testing.T) {
	for _, engine := range engines() {
		b := stocked(t, "written over", engine)
		for _, name := range []string{"", "city"} {
			var x *api.Index
			if name != "" {
				x = &b.indexes[0]
			}
			_, at := b.rising(x)
			lo, hi := roomy(at[10]), roomy(at[20])
			all := b.x.Scan(name, lo, hi, false, false)
			untouched(t, "lo", lo, at[10])
			untouched(t, "hi", hi, at[20])
			for range 2 {
				l, e := told(all)
				same(t, "Scan", e, api.OK)
				sameList(t, "Scan", forms(l), b.between(x, at[10], at[20], false))
			}
			empty := make([]byte, 0, 8)
			all = b.x.Scan(name, lo, empty, false, true)
			_ = append(empty, "\xff"...)
			l, e := told(all)
			same(t, "Scan ahead of nothing", fmt.Sprint(len(l), e), "0 0")
		}
	}
}

// P19.6: many records, in trees of several levels: by entries, as bytes, rising and falling.
func TestScanOfMany(t *testing.T) {
	t.Parallel()
	for _, engine := range engines() {
		b := newBed(t, "many", engine, 512, 20000, by("x", "a", "b"), alone("y", "c"))
		for i := range int64(400) {
			b.put(rec(word(fmt.Sprintf("key %d", i*7%400)), "a", num(i%7), "b", word(long(int(i%20), 'b')), "c", num(-i), "d", word(long(int(i%3)*100, 'd'))))
		}
		b.holds("many")
		b.tells("many")
		r := chance()
		for range 60 {
			x := &b.indexes[r.Intn(2)]
			_, at := b.rising(x)
			b.scans("many", x, at[r.Intn(len(at))], at[r.Intn(len(at))], r.Intn(4) == 0)
			_, at = b.rising(nil)
			b.scans("many", nil, at[r.Intn(len(at))], at[r.Intn(len(at))], r.Intn(4) == 0)
		}
		var last []byte
		for r, e := range b.x.Scan("x", nil, nil, true, false) {
			same(t, "Scan", e, api.OK)
			entry := []byte(entryOf(b.indexes[0], r))
			same(t, "entries rise", bytes.Compare(last, entry) < 0, true)
			last = entry
		}
	}
}
