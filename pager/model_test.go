package pager_test

import (
	"bytes"
	"fmt"
	"maps"
	"math/rand"
	"slices"
	"testing"

	"espalier/api"
	"espalier/meta"
	"espalier/pager"
	"espalier/plate"
)

// model does what the chapter's words say, one by one, over a device of its own: the list is a map of what each page waits with, 0 of the free ones.
type model struct {
	d     *plate.Plate
	last  api.Meta
	list  map[int]int
	chain []int
	high  int
	views []*modelView
	open  *modelTxn
	down  bool
}

type modelView struct {
	m      *model
	meta   api.Meta
	closed bool
}

type modelTxn struct {
	m           *model
	over        bool
	fresh       map[int][]byte
	root, count int
	list        map[int]int // as it was behind Begin
	high        int
}

// modelOpen takes up a device that a pager has left, or a new one.
func modelOpen(t *testing.T, d *plate.Plate) *model {
	t.Helper()
	if tellsNone(d) {
		b, _ := meta.Encode(plainMeta(api.Meta{High: 2}))
		d.Write(0, b)
		d.Sync()
	}
	c := tell(t, d)
	m := &model{d: d, last: c.meta, list: map[int]int{}, chain: c.chain, high: c.meta.High}
	for _, n := range c.listed {
		m.list[n] = 0
	}
	return m
}

func tellsNone(d *plate.Plate) bool {
	_, _, e := meta.Choose(onDevice(d, 0), onDevice(d, 1))
	return e != api.OK
}

func (m *model) finds() bool {
	m.down = m.down || !m.d.Up()
	return m.down
}

func (m *model) oldest() int {
	oldest := m.last.Txn
	for _, v := range m.views {
		if !v.closed {
			oldest = min(oldest, v.meta.Txn)
		}
	}
	return oldest
}

func (m *model) release() {
	for n, txn := range m.list {
		if txn <= m.oldest() {
			m.list[n] = 0
		}
	}
}

func (m *model) inUse(n int) bool {
	_, listed := m.list[n]
	return n >= 2 && n < m.high && !listed
}

func (m *model) take() (int, bool) {
	for n := 2; n < m.high; n++ {
		if txn, is := m.list[n]; is && txn == 0 {
			delete(m.list, n)
			return n, true
		}
	}
	if m.high < m.d.Pages() {
		m.high++
		return m.high - 1, true
	}
	return 0, false
}

// copied is the model's pages alone, to try something out on.
func (m *model) copied() *model {
	return &model{d: m.d, last: m.last, list: maps.Clone(m.list), chain: m.chain, high: m.high, views: m.views}
}

// newChain has the list's pages wait and takes the next ones; false, if there are too few.
func (m *model) newChain() ([]int, bool) {
	for _, n := range m.chain {
		m.list[n] = m.last.Txn + 1
	}
	var taken []int
	for len(m.list) > r*len(taken) {
		n, ok := m.take()
		if !ok {
			return nil, false
		}
		taken = append(taken, n)
	}
	return taken, true
}

func (m *model) spareOf(n int) bool {
	c := m.copied()
	for range n {
		if _, ok := c.take(); !ok {
			return false
		}
	}
	_, ok := c.newChain()
	return ok
}

func (m *model) spare() int {
	if m.down || !m.d.Up() {
		return 0
	}
	c := m.copied()
	if m.open == nil {
		c.release()
	}
	for n := m.d.Pages(); n > 0; n-- {
		if c.spareOf(n) {
			return n
		}
	}
	return 0
}

func (m *model) begin() (*modelTxn, api.Errno) {
	if m.finds() {
		return nil, api.ErrDown
	}
	if m.open != nil {
		return nil, api.ErrBusy
	}
	m.release()
	m.open = &modelTxn{m: m, fresh: map[int][]byte{}, root: m.last.Root, count: m.last.Count, list: maps.Clone(m.list), high: m.high}
	return m.open, api.OK
}

func (m *model) view() (*modelView, api.Errno) {
	if m.finds() {
		return nil, api.ErrDown
	}
	open := slices.DeleteFunc(slices.Clone(m.views), func(v *modelView) bool { return v.closed })
	if len(open) >= 64 {
		return nil, api.ErrViews
	}
	v := &modelView{m: m, meta: m.last}
	m.views = append(open, v)
	return v, api.OK
}

func (m *model) looked() []int {
	var l []int
	for _, v := range m.views {
		if !v.closed && !slices.Contains(l, v.meta.Txn) {
			l = append(l, v.meta.Txn)
		}
	}
	slices.Sort(l)
	return l
}

func (v *modelView) refused() api.Errno {
	if v.closed {
		return api.ErrOver
	}
	if v.m.finds() {
		return api.ErrDown
	}
	return api.OK
}

func (v *modelView) read(n int) ([]byte, api.Errno) {
	if e := v.refused(); e != api.OK {
		return nil, e
	}
	if n < 2 || n >= v.meta.High {
		return nil, api.ErrPage
	}
	return onDevice(v.m.d, n), api.OK
}

func (x *modelTxn) refused() api.Errno {
	if x.over {
		return api.ErrOver
	}
	if x.m.finds() {
		return api.ErrDown
	}
	return api.OK
}

func (x *modelTxn) isFresh(n int) bool {
	_, is := x.fresh[n]
	return is && !x.over
}

func (x *modelTxn) read(n int) ([]byte, api.Errno) {
	if e := x.refused(); e != api.OK {
		return nil, e
	}
	switch {
	case !x.m.inUse(n):
		return nil, api.ErrPage
	case x.isFresh(n) && x.fresh[n] == nil:
		return zero, api.OK
	case x.isFresh(n):
		return x.fresh[n], api.OK
	}
	return onDevice(x.m.d, n), api.OK
}

func (x *modelTxn) alloc() (int, api.Errno) {
	if e := x.refused(); e != api.OK {
		return 0, e
	}
	n, ok := x.m.take()
	if !ok {
		return 0, api.ErrFull
	}
	x.fresh[n] = nil
	return n, api.OK
}

func (x *modelTxn) write(n int, b []byte) api.Errno {
	if e := x.refused(); e != api.OK {
		return e
	}
	switch {
	case !x.m.inUse(n):
		return api.ErrPage
	case !x.isFresh(n):
		return api.ErrFresh
	case len(b) != 512:
		return api.ErrSize
	}
	x.fresh[n] = bytes.Clone(b)
	return api.OK
}

func (x *modelTxn) free(n int) api.Errno {
	if e := x.refused(); e != api.OK {
		return e
	}
	if !x.m.inUse(n) || slices.Contains(x.m.chain, n) {
		return api.ErrPage
	}
	x.m.list[n] = x.m.last.Txn + 1
	if x.isFresh(n) {
		x.m.list[n] = 0
		delete(x.fresh, n)
	}
	return api.OK
}

func (x *modelTxn) setRoot(root, count int) api.Errno {
	if e := x.refused(); e != api.OK {
		return e
	}
	none := root == 0 && count == 0
	good := x.m.inUse(root) && !slices.Contains(x.m.chain, root) && 1 <= count && count <= 256
	if !none && !good {
		return api.ErrArg
	}
	x.root, x.count = root, count
	return api.OK
}

func (x *modelTxn) end() {
	x.over, x.m.open = true, nil
	x.root, x.count = 0, 0
}

func (x *modelTxn) rollback() api.Errno {
	if e := x.refused(); e != api.OK {
		return e
	}
	x.m.list, x.m.high = x.list, x.high
	x.end()
	return api.OK
}

func (x *modelTxn) commit(t *testing.T) (int, api.Errno) {
	m := x.m
	if e := x.refused(); e != api.OK {
		return 0, e
	}
	if x.root != 0 && !m.inUse(x.root) {
		return 0, api.ErrArg
	}
	c := m.copied()
	chain, ok := c.newChain()
	if !ok {
		return 0, api.ErrFull
	}
	mt := plainMeta(api.Meta{Txn: m.last.Txn + 1, Root: x.root, Count: x.count, Listed: len(c.list), High: c.high})
	if len(chain) > 0 {
		mt.Free = chain[0]
	}
	if !x.acts(t, c, chain, mt) {
		m.down = true
		x.end()
		return 0, api.ErrDown
	}
	m.list, m.high, m.chain, m.last = c.list, c.high, chain, mt
	x.end()
	m.release()
	return mt.Txn, api.OK
}

// acts tells whether the power has lasted.
func (x *modelTxn) acts(t *testing.T, c *model, chain []int, mt api.Meta) bool {
	for _, n := range slices.Sorted(maps.Keys(x.fresh)) {
		if x.fresh[n] != nil && c.d.Write(n, x.fresh[n]) != api.OK {
			return false
		}
	}
	for i, l := range chunks(slices.Sorted(maps.Keys(c.list)), len(chain)) {
		if c.d.Write(chain[i], listPage(append(chain, 0)[i+1], l...)) != api.OK {
			return false
		}
	}
	return c.d.Sync() == api.OK && c.d.Write(mt.Txn%2, metaPage(t, mt)) == api.OK && c.d.Sync() == api.OK
}

// twins are a pager and the model, with their transactions and views, each beside its like.
type twins struct {
	d     *plate.Plate
	p     *pager.Pager
	m     *model
	x     []*pager.Txn
	mx    []*modelTxn
	v     []*pager.View
	mv    []*modelView
	count map[string]int // what came, and how it was answered
}

// reopen takes up both devices anew; what belonged to the earlier pagers is left.
func (w *twins) reopen(t *testing.T) {
	t.Helper()
	w.p, w.m = opened(t, w.d), modelOpen(t, w.m.d)
	w.x, w.mx, w.v, w.mv = nil, nil, nil, nil
}

func (w *twins) came(what string, e api.Errno) { w.count[fmt.Sprintf("%s %d", what, e)]++ }

// number is that of some page, rarely one that no page has.
func (w *twins) number(c *rand.Rand) int {
	if c.Intn(15) == 0 {
		return noPages()[c.Intn(len(noPages()))]
	}
	return c.Intn(min(w.d.Pages(), w.m.high+2) + 1)
}

func (w *twins) begin(t *testing.T) {
	t.Helper()
	x, e := w.p.Begin()
	mx, want := w.m.begin()
	same(t, "Begin", e, want)
	same(t, "no transaction beside an error", x == nil, mx == nil)
	if e == api.OK {
		w.x, w.mx = append(w.x, x), append(w.mx, mx)
	}
	w.came("Begin", want)
}

// pagerStep asks both pagers the same.
func (w *twins) pagerStep(t *testing.T, c *rand.Rand) {
	t.Helper()
	switch c.Intn(8) {
	case 0, 1, 2:
		w.begin(t)
	case 3, 4:
		v, e := w.p.View()
		mv, want := w.m.view()
		same(t, "View", e, want)
		same(t, "no view beside an error", v == nil, mv == nil)
		if e == api.OK {
			w.v, w.mv = append(w.v, v), append(w.mv, mv)
		}
		w.came("View", want)
	case 5:
		same(t, "Up", w.p.Up(), !w.m.finds())
	default:
		w.power(c)
	}
}

// power does the same to both devices.
func (w *twins) power(c *rand.Rand) {
	f := api.Fall{Torn: c.Intn(5) - 2, At: c.Intn(514) - 1}
	for range c.Intn(5) {
		f.Keep = append(f.Keep, c.Intn(8))
	}
	kind, acts := c.Intn(12), c.Intn(12)-1
	for _, d := range []*plate.Plate{w.d, w.m.d} {
		switch {
		case kind < 5:
			d.Arm(acts, f)
		case kind == 5:
			d.Crash(f)
		default:
			d.Start()
		}
	}
}

// viewStep asks a view and its like the same.
func (w *twins) viewStep(t *testing.T, c *rand.Rand) {
	t.Helper()
	if len(w.v) == 0 {
		return
	}
	i, n := c.Intn(len(w.v)), w.number(c)
	v, mv := w.v[i], w.mv[i]
	same(t, "Meta of a view", v.Meta(), mv.meta)
	switch c.Intn(8) {
	case 0:
		v.Close()
		mv.closed = true
	case 1:
		want := mv.refused()
		if want == api.OK {
			want = api.ErrState
		}
		refusesAlloc(t, v, want)
		same(t, "Write of a view", v.Write(n, page(1)), want)
		same(t, "Free of a view", v.Free(n), want)
		same(t, "Fresh, Spare of a view", v.Fresh(n) || v.Spare(n), false)
		w.came("change of a view", want)
	default:
		b, e := v.Read(n)
		want, we := mv.read(n)
		same(t, "Read of a view", e, we)
		sameBytes(t, "Read of a view", b, want)
		w.came("Read of a view", we)
	}
}

// txnStep asks a transaction and its like the same; mostly the last one.
func (w *twins) txnStep(t *testing.T, c *rand.Rand) {
	t.Helper()
	if len(w.x) == 0 {
		return
	}
	i, n := len(w.x)-1, w.number(c)
	if c.Intn(20) == 0 {
		i = c.Intn(len(w.x))
	}
	x, mx := w.x[i], w.mx[i]
	if fresh := slices.Sorted(maps.Keys(mx.fresh)); len(fresh) > 0 && c.Intn(3) == 0 {
		n = fresh[c.Intn(len(fresh))]
	}
	root, count := x.Root()
	same(t, "Root", [2]int{root, count}, [2]int{mx.root, mx.count})
	switch c.Intn(24) {
	case 0, 1, 2, 3, 4:
		for range 1 + c.Intn(4)/3*c.Intn(w.d.Pages()/4) {
			got, e := x.Alloc()
			want, we := mx.alloc()
			same(t, "Alloc", e, we)
			same(t, "Alloc", got, want)
			w.came("Alloc", we)
		}
	case 5, 6, 7, 8, 9:
		b := page(c.Intn(256))[:512-c.Intn(12)/11]
		want := mx.write(n, b)
		same(t, "Write", x.Write(n, b), want)
		w.came("Write", want)
	case 10, 11, 12, 13:
		for range 1 + c.Intn(4)/3*c.Intn(w.d.Pages()/4) {
			want := mx.free(n)
			same(t, "Free", x.Free(n), want)
			w.came("Free", want)
			n = w.number(c)
		}
	case 14:
		same(t, "Fresh", x.Fresh(n), mx.isFresh(n))
		same(t, "Spare", x.Spare(n%400), !mx.over && !w.m.down && w.d.Up() && w.m.spareOf(max(n%400, 0)))
	case 15, 16:
		count := c.Intn(259) - 1
		if c.Intn(3) == 0 {
			n, count = 0, 0
		}
		want := mx.setRoot(n, count)
		same(t, "SetRoot", x.SetRoot(n, count), want)
		w.came("SetRoot", want)
	case 17, 18, 19:
		got, e := x.Commit()
		want, we := mx.commit(t)
		same(t, "Commit", e, we)
		same(t, "Commit", got, want)
		w.came("Commit", we)
	case 20:
		want := mx.rollback()
		same(t, "Rollback", x.Rollback(), want)
		w.came("Rollback", want)
	default:
		b, e := x.Read(n)
		want, we := mx.read(n)
		same(t, "Read", e, we)
		sameBytes(t, "Read", b, want)
		w.came("Read", we)
	}
}

// alike holds all that both tell of themselves against each other.
func (w *twins) alike(t *testing.T, spare bool) {
	t.Helper()
	same(t, "Meta", w.p.Meta(), w.m.last)
	sameList(t, "Views", w.p.Views(), w.m.looked())
	if spare {
		same(t, "Spare", w.p.Spare(), w.m.spare())
	}
	c, mc := w.d.Counts(), w.m.d.Counts()
	same(t, "Writes", c.Writes, mc.Writes)
	same(t, "Syncs", c.Syncs, mc.Syncs)
	same(t, "Up of the device", w.d.Up(), w.m.d.Up())
	sameBytes(t, "Image", w.d.Image(), w.m.d.Image())
	same(t, "Loose", w.d.Loose(), 0)
}

// P11.2 to P11.12: a pager and the model answer the same, and do the same to their devices, whatever comes in whatever order.
func TestAgainstTheModel(t *testing.T) {
	c := chance()
	count := map[string]int{}
	for run := range 80 {
		pages := []int{8, 14, 20, 40, 300}[run%5]
		d, p := both(t, pages)
		w := &twins{d: d, p: p, m: modelOpen(t, device(t, pages)), count: count}
		for step := range 400 {
			switch k := c.Intn(20); {
			case k < 14 && w.m.open == nil && c.Intn(3) > 0:
				w.begin(t)
			case k < 14:
				w.txnStep(t, c)
			case k < 17:
				w.pagerStep(t, c)
			case k < 19:
				w.viewStep(t, c)
			case w.d.Up() && (w.m.down || c.Intn(20) == 0):
				w.reopen(t)
			}
			w.alike(t, pages < 100 || step%20 == 0)
			if t.Failed() {
				t.Fatalf("run %d of %d pages, step %d", run, pages, step)
			}
		}
	}
	for _, what := range []string{"Begin 0", "Begin 3", "Begin 110", "View 0", "View 3", "Alloc 0", "Alloc 5", "Alloc 113", "Write 0", "Write 30", "Write 101", "Write 31", "Free 0", "Free 30", "SetRoot 0", "SetRoot 1", "Commit 0", "Commit 1", "Commit 3", "Commit 5", "Commit 113", "Rollback 0", "Rollback 113", "Read 0", "Read 30", "Read of a view 0", "Read of a view 30", "Read of a view 113", "change of a view 4"} {
		if count[what] < 10 {
			t.Errorf("too little came of %s: %d", what, count[what])
		}
	}
}
