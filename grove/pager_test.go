package grove_test

import (
	"fmt"
	"maps"
	"testing"

	"espalier/api"
	"espalier/free"
	"espalier/grove"
	"espalier/pager"
	"espalier/plate"
)

// device is a grove commit by commit, on a pager.
type device struct {
	t      *testing.T
	p      *pager.Pager
	x      *pager.Txn
	g      *grove.Grove
	engine int
	pages  int
	want   state
}

func newDevice(t *testing.T, engine, pages int) *device {
	t.Helper()
	p, e := pager.Open(plate.New(512, pages), engine)
	if e != api.OK {
		t.Fatalf("no pager: %d", e)
	}
	d := &device{t: t, p: p, engine: engine, pages: pages, want: state{}}
	d.begin()
	return d
}

func (d *device) begin() {
	d.t.Helper()
	x, e := d.p.Begin()
	if e != api.OK {
		d.t.Fatalf("Begin: %d", e)
	}
	d.x = x
	root, n := x.Root()
	d.g = grove.Open(x, root, n)
}

func (d *device) must(what string, e api.Errno) {
	if e != api.OK {
		d.t.Helper()
		d.t.Fatalf("%s: %d", what, e)
	}
}

// commit commits what the grove has become, and begins anew.
func (d *device) commit() {
	d.t.Helper()
	root, n := d.g.Root()
	d.must("SetRoot", d.x.SetRoot(root, n))
	_, e := d.x.Commit()
	d.must("Commit", e)
	d.begin()
}

// shelfOf is the pages of a room, as many as there are.
func shelfOf(r api.Room, pages int) *shelf {
	s := newShelf(r.Engine(), r.Size())
	for n := 2; n < pages; n++ {
		if b, e := r.Read(n); e == api.OK {
			s.held[n] = b
		}
	}
	return s
}

// listed is the pages of the last commit's list, and those that it lists.
func (d *device) listed(v *pager.View) map[int]int {
	d.t.Helper()
	l := map[int]int{}
	for page := v.Meta().Free; page != 0; {
		b, e := v.Read(page)
		d.must("a page of the list", e)
		next, pages, e := free.Decode(b)
		d.must("a page of the list", e)
		l[page]++
		for _, n := range pages {
			l[n]++
		}
		page = next
	}
	return l
}

// whole holds the last commit against the maps: of its pages each is the grove's, or the list's, or listed; none is lost.
func (d *device) whole(what string) {
	d.t.Helper()
	v, e := d.p.View()
	d.must("View", e)
	defer v.Close()
	m := v.Meta()
	s := shelfOf(v, m.High)
	l := d.listed(v)
	for n := range l {
		delete(s.held, n)
	}
	s.holds(d.t, what, m.Root, m.Count, d.want)
	same(d.t, what+": pages in use, and listed", len(s.held)+len(l), m.High-2)
}

// P15.9 and the pager: commits, transactions that are given up, and views that go on telling what they told.
func TestCommitsAndViews(t *testing.T) {
	for _, engine := range engines() {
		d := newDevice(t, engine, 3000)
		r := chance()
		type look struct {
			v    *pager.View
			want state
		}
		var looks []look
		last := state{}
		for i, x := range script(r, 900, 64) {
			d.play(x)
			switch i % 93 {
			case 15, 46, 92:
				d.commit()
				d.whole(fmt.Sprint("commit behind step ", i))
				last = d.want.copied()
				v, e := d.p.View()
				d.must("View", e)
				looks = append(looks, look{v, last})
			case 30, 91:
				d.must("Rollback", d.x.Rollback())
				d.want = last.copied()
				d.begin()
				viewTells(t, fmt.Sprint("given up behind step ", i), d.view(), last)
			}
			if len(looks) > 5 {
				looks[0].v.Close()
				looks = looks[1:]
			}
			if i%150 == 149 {
				for _, k := range looks {
					m := k.v.Meta()
					viewTells(t, fmt.Sprint("a view behind step ", i), grove.Open(k.v, m.Root, m.Count), k.want)
				}
			}
		}
	}
}

// view is the grove of the last commit, in a view.
func (d *device) view() *grove.Grove {
	d.t.Helper()
	v, e := d.p.View()
	d.must("View", e)
	d.t.Cleanup(v.Close)
	m := v.Meta()
	return grove.Open(v, m.Root, m.Count)
}

// play does a step in the transaction, and in the maps.
func (d *device) play(x step) {
	d.t.Helper()
	m := planted(d.t, "", newShelf(d.engine, 512))
	m.want = d.want
	c := m.next(x)
	answer, e := c.do(d.g)
	same(d.t, c.what, e, c.e)
	if c.e == api.OK {
		same(d.t, c.what, answer, c.answer)
		d.want = c.then
	}
	if d.t.Failed() {
		d.t.FailNow()
	}
}

// viewTells holds what a grove tells against maps.
func viewTells(t *testing.T, what string, g *grove.Grove, want state) {
	t.Helper()
	names, e := g.Names()
	same(t, what, e, api.OK)
	sameList(t, what+": Names", names, want.names())
	for _, name := range names {
		l, e := scanned(g, name, "", "", false, 1<<20)
		same(t, what, e, api.OK)
		samePairs(t, what+": "+name, l, want.rising(name))
	}
	same(t, what+": Make in a view", g.Make("new"), api.ErrFull)
	if len(names) > 0 {
		same(t, what+": Drop in a view", g.Drop(names[0]), api.ErrFull)
		_, e := g.Put(names[0], []byte("k"), nil)
		same(t, what+": Put in a view", e, api.ErrFull)
		is, e := g.Delete(names[0], []byte("no such key"))
		same(t, what+": Delete in a view of what is not there", e, api.OK)
		same(t, what+": Delete in a view of what is not there", is, false)
		_, e = g.Load(names[0], nil)
		same(t, what+": Load in a view", e, api.ErrFull)
	}
}

// fill takes pages beside the grove until the transaction has just so many spare ones.
func (d *device) fill(n int) {
	d.t.Helper()
	for d.x.Spare(n + 1) {
		_, e := d.x.Alloc()
		d.must("Alloc", e)
	}
	if !d.x.Spare(n) {
		d.t.Fatalf("there are not %d spare pages", n)
	}
}

// P15.3, P15.7: trees of an earlier commit's pages are given back in a transaction that has just as many spare pages as the change may ask for. These pages have to be listed, so that there are fewer spare ones then: nothing may be asked for behind that.
func TestGivingBackWhatWasCommitted(t *testing.T) {
	for _, engine := range engines() {
		for _, what := range []string{"Drop", "Load", "Load of none"} {
			d := newDevice(t, engine, 4000)
			d.must("Make", d.g.Make("a"))
			d.must("Make", d.g.Make("b"))
			_, e := d.g.Load("a", tells(numbered(1600, 400)...).all())
			d.must("Load", e)
			_, e = d.g.Put("b", []byte("k"), []byte("v"))
			d.must("Put", e)
			d.want = state{"a": {}, "b": {"k": "v"}}
			d.commit()
			switch what {
			case "Drop":
				d.fill(7 + 8)
				d.must(what, d.g.Drop("a"))
				delete(d.want, "a")
			case "Load":
				d.fill(1 + 2*1 + 7 + 8)
				_, e := d.g.Load("a", tells(numbered(2, 300)...).all())
				d.must(what, e)
				d.want["a"] = map[string]string{"k00000": long(300, 0), "k00001": long(300, 1)}
			default:
				d.fill(7 + 8)
				_, e := d.g.Load("a", nil)
				d.must(what, e)
			}
			root, n := d.g.Root()
			s := shelfOf(d.x, d.pages)
			v, fault := s.good(root, n)
			same(t, what+": fault", fault, "")
			same(t, what+": trees", len(v.trees), len(d.want))
			for name := range d.want {
				samePairs(t, what+": "+name, v.pairs[name], d.want.rising(name))
			}
			same(t, what+": a commit is to be had", d.x.Spare(0), true)
		}
	}
}

// P15.5: a device that fills up: what is refused has changed nothing, and what was not refused is there.
func TestADeviceThatFillsUp(t *testing.T) {
	for _, engine := range engines() {
		for _, pages := range []int{13, 14, 20, 40, 90, 200} {
			d := newDevice(t, engine, pages)
			r := chance()
			refused, done := 0, 0
			for i := range 500 {
				key, value := fmt.Sprint("k", r.Intn(80)), drawValue(r)
				var e api.Errno
				root, n := d.g.Root()
				next := d.want.copied()
				switch {
				case i%100 == 0:
					name := string([]byte{byte('a' + i/100)})
					e = d.g.Make(name)
					next[name] = map[string]string{}
				case d.want["a"] == nil || len(value) > 65536:
					continue
				case r.Intn(3) == 0:
					_, e = d.g.Delete("a", []byte(key))
					delete(next["a"], key)
				default:
					_, e = d.g.Put("a", []byte(key), []byte(value))
					next["a"][key] = value
				}
				switch e {
				case api.OK:
					d.want = next
					done++
				case api.ErrFull:
					refused++
					after, k := d.g.Root()
					same(t, "the root", after, root)
					same(t, "how many trees", k, n)
				default:
					t.Fatalf("step %d: %d", i, e)
				}
				if i%40 == 39 && d.x.Spare(0) {
					d.commit()
					d.whole(fmt.Sprint("a device of ", pages, " pages, step ", i))
				}
			}
			same(t, fmt.Sprint(pages, " pages: something is refused"), refused > 0, true)
			same(t, fmt.Sprint(pages, " pages: something is done"), done > 0, pages > 13)
			root, n := d.g.Root()
			v, fault := shelfOf(d.x, d.pages).good(root, n)
			same(t, "fault", fault, "")
			for name := range maps.Keys(d.want) {
				samePairs(t, name, v.pairs[name], d.want.rising(name))
			}
		}
	}
}
