package multi_test

import (
	"fmt"
	"testing"

	"espalier/api"
	"espalier/grove"
	"espalier/multi"
	"espalier/pager"
	"espalier/plate"
)

// P16.4: Clear of none, of one and of many, among the entries of keys that stand beside it.
func TestClear(t *testing.T) {
	for _, engine := range engines() {
		for _, count := range []int{0, 1, 2, 3, 60, 300} {
			for _, key := range []string{"", "\x00", "k", "k\x00", "k\xff", "\xff"} {
				b := newBed(t, fmt.Sprintf("Clear(%q) of %d", key, count), engine, 512, 1000)
				beside := []string{"", "\x00", "\x00\x00", "k", "k\x00", "k\x00\x01", "k\x01", "k\xff", "l", "\xff", "\xff\xff"}
				for _, other := range beside {
					if other != key {
						b.add(other, "", other, "\x00", other, "v", other, "\xff\xff")
					}
				}
				for i := range count {
					b.add(key, fmt.Sprintf("%0*d", i%40, i))
				}
				b.clears(key)
				b.holds("cleared")
				n, e := b.m.Clear([]byte(key))
				same(t, b.what+": again", fmt.Sprint(n, e), "0 0")
				b.tells("cleared", beside, []string{"", "\x00", "v"})
			}
		}
	}
}

// P16.4: a Clear of all that there is gives all pages back but the catalog's.
func TestClearOfAll(t *testing.T) {
	for _, engine := range engines() {
		b := newBed(t, "Clear of all", engine, 512, 1000)
		before := b.room.Taken()
		for i := range 300 {
			b.add("k", fmt.Sprintf("%030d", i))
		}
		b.clears("k")
		b.holds("cleared")
		sameList(t, "pages", b.room.Taken(), before)
	}
}

// P16.4: a Clear whose Deletes are refused from one of them on: just those ahead of it are gone.
func TestAClearThatIsRefused(t *testing.T) {
	t.Parallel()
	for _, engine := range engines() {
		b := newBed(t, "refused", engine, 512, 400)
		var values []string
		for i := range 90 {
			values = append(values, fmt.Sprintf("%030d", i))
			b.add("k", values[i])
		}
		b.add("a", "beside it", "z", "beside it")
		for done := range values {
			c := b.copied()
			c.room.grants = done
			n, e := c.m.Clear([]byte("k"))
			what := fmt.Sprintf("%s: at the entry %d", c.what, done)
			same(t, what, fmt.Sprint(n, e), fmt.Sprint(0, api.ErrFull))
			for _, value := range values[:done] {
				delete(c.want, entry("k", value))
			}
			c.holds(what)
			c.tells(what, []string{"", "a", "k", "z"}, values[max(0, done-1):min(len(values), done+1)])
			c.room.grants = plenty
			n, e = c.m.Clear([]byte("k"))
			same(t, what+": the rest", fmt.Sprint(n, e), fmt.Sprint(len(values)-done, api.OK))
		}
	}
}

// device is a multi commit by commit, on a pager.
type device struct {
	t *testing.T
	p *pager.Pager
	x *pager.Txn
	g *grove.Grove
	m *multi.Multi
}

func newDevice(t *testing.T, engine, pages int) *device {
	t.Helper()
	p, e := pager.Open(plate.New(512, pages), engine)
	d := &device{t: t, p: p}
	d.must("pager.Open", e)
	d.begin()
	return d
}

func (d *device) must(what string, e api.Errno) {
	if e != api.OK {
		d.t.Helper()
		d.t.Fatalf("%s: %d", what, e)
	}
}

func (d *device) begin() {
	d.t.Helper()
	x, e := d.p.Begin()
	d.must("Begin", e)
	root, n := x.Root()
	d.x, d.g = x, grove.Open(x, root, n)
	d.m = multi.Open(d.g, "m")
}

// commit commits what there is, and begins anew.
func (d *device) commit() {
	d.t.Helper()
	root, n := d.g.Root()
	d.must("SetRoot", d.x.SetRoot(root, n))
	_, e := d.x.Commit()
	d.must("Commit", e)
	d.begin()
}

// view is the multi of the last commit.
func (d *device) view() *multi.Multi {
	d.t.Helper()
	v, e := d.p.View()
	d.must("View", e)
	d.t.Cleanup(v.Close)
	return multi.Open(grove.Open(v, v.Meta().Root, v.Meta().Count), "m")
}

// filled is a device with the values 0 to count of k, and pairs beside them, committed; nil, if it has too few pages for that.
func filled(t *testing.T, engine, pages, count int) *device {
	t.Helper()
	d := newDevice(t, engine, pages)
	d.must("Make", d.g.Make("m"))
	l := []pair{{"a", "beside it"}, {"z", "beside it"}}
	for i := range count {
		l = append(l, pair{"k", fmt.Sprintf("%030d", i)})
	}
	for _, p := range l {
		_, e := d.m.Add([]byte(p.key), []byte(p.value))
		if e == api.ErrFull {
			return nil
		}
		d.must("Add", e)
	}
	d.commit()
	return d
}

// P16.4: a Clear for which the pages do not suffice, since those of the last commit are not to be written: it stops at some entry; those ahead of it are gone, it and those behind it are there.
func TestAClearThatStops(t *testing.T) {
	t.Parallel()
	const count = 150
	for _, engine := range engines() {
		midst, done := 0, 0
		var want []string
		for i := range count {
			want = append(want, fmt.Sprintf("%030d", i))
		}
		for pages := 30; pages < 80; pages++ {
			d := filled(t, engine, pages, count)
			if d == nil {
				continue
			}
			v := d.view()
			what := fmt.Sprintf("engine %d, a device of %d pages", engine, pages)
			n, e := d.m.Clear([]byte("k"))
			l, le := d.m.Values([]byte("k"))
			same(t, what+": Values", le, api.OK)
			switch e {
			case api.OK:
				done++
				same(t, what+": cleared", n, count)
				same(t, what+": left", len(l), 0)
			case api.ErrFull:
				same(t, what+": beside the error", n, 0)
				same(t, what+": something is left", len(l) > 0, true)
				if len(l) < count {
					midst++
				}
			default:
				t.Fatalf("%s: %d", what, e)
			}
			sameList(t, what+": what is left", texts(l), want[count-len(l):])
			keys, e := d.m.Keys(nil, nil)
			same(t, what+": Keys", fmt.Sprint(len(keys), e), fmt.Sprint(2+min(1, len(l)), api.OK))
			d.commit()
			all, e := gone(d.view(), 1<<30)
			same(t, what+": All behind the commit", fmt.Sprint(len(all), e), fmt.Sprint(len(l)+2, api.OK))
			all, e = gone(v, 1<<30)
			same(t, what+": All of the view", fmt.Sprint(len(all), e), fmt.Sprint(count+2, api.OK))
		}
		same(t, "some stop in the midst", midst > 0, true)
		same(t, "some do not", done > 5, true)
	}
}

// P16.2 to P16.6 in a view: it tells what its commit has, and takes no change.
func TestViews(t *testing.T) {
	for _, engine := range engines() {
		d := newDevice(t, engine, 1000)
		d.must("Make", d.g.Make("m"))
		for i := range 100 {
			_, e := d.m.Add([]byte(fmt.Sprint("k", i%4)), []byte(fmt.Sprintf("%030d", i)))
			d.must("Add", e)
		}
		d.commit()
		v := d.view()
		_, e := d.m.Clear([]byte("k1"))
		d.must("Clear", e)
		_, e = d.m.Add([]byte("k4"), nil)
		d.must("Add", e)
		for _, m := range []*multi.Multi{v, d.view()} {
			n, e := m.Count([]byte("k1"))
			same(t, "Count in a view", fmt.Sprint(n, e), "25 0")
			is, e := m.Has([]byte("k4"), nil)
			same(t, "Has in a view", fmt.Sprint(is, e), "false 0")
			is, e = m.Add([]byte("k4"), nil)
			same(t, "Add in a view", fmt.Sprint(is, e), "false 5")
			is, e = m.Add([]byte("k1"), []byte(fmt.Sprintf("%030d", 1)))
			same(t, "Add in a view of what is there", fmt.Sprint(is, e), "false 0")
			is, e = m.Remove([]byte("k1"), []byte(fmt.Sprintf("%030d", 1)))
			same(t, "Remove in a view", fmt.Sprint(is, e), "false 5")
			is, e = m.Remove([]byte("k4"), nil)
			same(t, "Remove in a view of what is not there", fmt.Sprint(is, e), "false 0")
			n, e = m.Clear([]byte("k1"))
			same(t, "Clear in a view", fmt.Sprint(n, e), "0 5")
			n, e = m.Clear([]byte("k4"))
			same(t, "Clear in a view of none", fmt.Sprint(n, e), "0 0")
			l, e := m.Keys(nil, nil)
			same(t, "Keys in a view", fmt.Sprint(len(l), e), "4 0")
			all, e := gone(m, 1<<30)
			same(t, "All in a view", fmt.Sprint(len(all), e), "100 0")
		}
		d.must("Rollback", d.x.Rollback())
		_, e = d.m.Values([]byte("k1"))
		same(t, "Values where the transaction is over", e, api.ErrOver)
		_, e = d.m.Add([]byte("k1"), nil)
		same(t, "Add where the transaction is over", e, api.ErrOver)
	}
}
