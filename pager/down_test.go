package pager_test

import (
	"testing"

	"espalier/api"
	"espalier/pager"
	"espalier/plate"
)

// calls is a pager with all that may be asked of it: a transaction that is open and one that is over, a view that is open and one that is closed.
type calls struct {
	stuff
	x, over *pager.Txn
	closed  *pager.View
}

// asked makes one: 10 is fresh and written, 4 given back, 5 the Root.
func asked(t *testing.T) calls {
	t.Helper()
	c := calls{stuff: stuffed(t, 16)}
	c.over = begun(t, c.p)
	rollsBack(t, c.over, api.OK)
	c.closed = viewed(t, c.p)
	c.closed.Close()
	c.x = begun(t, c.p)
	takes(t, c.x, 10)
	writes(t, c.x, 10, 33, api.OK)
	frees(t, c.x, api.OK, 4)
	setsRoot(t, c.x, 5, 3, api.OK)
	return c
}

func begins(p *pager.Pager) api.Errno    { _, e := p.Begin(); return e }
func views(p *pager.Pager) api.Errno     { _, e := p.View(); return e }
func readOf(x api.Room, n int) api.Errno { _, e := x.Read(n); return e }
func allocOf(x api.Room) api.Errno       { _, e := x.Alloc(); return e }
func commitOf(x *pager.Txn) api.Errno    { _, e := x.Commit(); return e }
func upOf(p *pager.Pager) (down api.Errno) {
	if !p.Up() {
		down = api.ErrDown
	}
	return down
}

// finding are the calls that find the device down, with arguments that are good and such as are not.
func finding() map[string]func(c calls) api.Errno {
	return map[string]func(c calls) api.Errno{
		"Up":                    func(c calls) api.Errno { return upOf(c.p) },
		"Begin":                 func(c calls) api.Errno { return begins(c.p) },
		"View":                  func(c calls) api.Errno { return views(c.p) },
		"Read of a page in use": func(c calls) api.Errno { return readOf(c.x, 2) },
		"Read of a fresh page":  func(c calls) api.Errno { return readOf(c.x, 10) },
		"Read of no page":       func(c calls) api.Errno { return readOf(c.x, -1) },
		"Alloc":                 func(c calls) api.Errno { return allocOf(c.x) },
		"Write":                 func(c calls) api.Errno { return c.x.Write(10, page(1)) },
		"Write of no page":      func(c calls) api.Errno { return c.x.Write(4, page(1)) },
		"Write of an old page":  func(c calls) api.Errno { return c.x.Write(2, page(1)) },
		"Write of nothing":      func(c calls) api.Errno { return c.x.Write(10, nil) },
		"Free":                  func(c calls) api.Errno { return c.x.Free(2) },
		"Free of no page":       func(c calls) api.Errno { return c.x.Free(4) },
		"SetRoot":               func(c calls) api.Errno { return c.x.SetRoot(2, 1) },
		"SetRoot of no page":    func(c calls) api.Errno { return c.x.SetRoot(4, 1) },
		"Commit":                func(c calls) api.Errno { return commitOf(c.x) },
		"Rollback":              func(c calls) api.Errno { return c.x.Rollback() },
		"View: Read":            func(c calls) api.Errno { return readOf(c.v, 2) },
		"View: Read of no page": func(c calls) api.Errno { return readOf(c.v, 1) },
		"View: Alloc":           func(c calls) api.Errno { return allocOf(c.v) },
		"View: Write":           func(c calls) api.Errno { return c.v.Write(2, page(1)) },
		"View: Free":            func(c calls) api.Errno { return c.v.Free(2) },
	}
}

// blind are the calls that do not find it down: those that answer no error, and those that answer ErrOver.
func blind() map[string]func(t *testing.T, c calls) {
	return map[string]func(t *testing.T, c calls){
		"Meta":        func(t *testing.T, c calls) { same(t, "Txn", c.p.Meta().Txn, 2) },
		"Views":       func(t *testing.T, c calls) { sameList(t, "Views", c.p.Views(), []int{1}) },
		"Spare":       func(t *testing.T, c calls) { same(t, "Spare", c.p.Spare(), 0) },
		"Txn.Spare":   func(t *testing.T, c calls) { same(t, "Spare", c.x.Spare(0), false) },
		"Txn.Fresh":   func(t *testing.T, c calls) { same(t, "Fresh", c.x.Fresh(10), true) },
		"Txn.Root":    func(t *testing.T, c calls) { roots(t, c.x, 5, 3) },
		"Txn.Engine":  func(t *testing.T, c calls) { same(t, "Engine", c.x.Engine(), api.Plain) },
		"Txn.Size":    func(t *testing.T, c calls) { same(t, "Size", c.x.Size(), 512) },
		"View.Fresh":  func(t *testing.T, c calls) { same(t, "Fresh", c.v.Fresh(2), false) },
		"View.Spare":  func(t *testing.T, c calls) { same(t, "Spare", c.v.Spare(0), false) },
		"View.Meta":   func(t *testing.T, c calls) { same(t, "Txn", c.v.Meta().Txn, 1) },
		"View.Engine": func(t *testing.T, c calls) { same(t, "Engine", c.v.Engine(), api.Plain) },
		"View.Size":   func(t *testing.T, c calls) { same(t, "Size", c.v.Size(), 512) },
		"over":        func(t *testing.T, c calls) { isOver(t, "over", c.over) },
		"closed":      func(t *testing.T, c calls) { isClosed(t, c.closed, c.p.Meta()) },
	}
}

// isDown holds all of a pager that is down.
func isDown(t *testing.T, c calls) {
	t.Helper()
	for what, ask := range finding() {
		same(t, what, ask(c), api.ErrDown)
	}
	for _, ask := range blind() {
		ask(t, c)
	}
}

// A pager that has found its device down stays down when the device is up again, whichever call has found it.
func TestFoundDown(t *testing.T) {
	for what, ask := range finding() {
		c := asked(t)
		image := c.d.Image()
		c.d.Crash(api.Fall{})
		same(t, what, ask(c), api.ErrDown)
		c.d.Start()
		isDown(t, c)
		isDown(t, c)
		sameBytes(t, what+": Image", c.d.Image(), image)
		same(t, what+": Loose", c.d.Loose(), 0)
		c.v.Close()
		sameList(t, what+": Views behind Close", c.p.Views(), nil)
		refusesRead(t, c.v, 2, api.ErrOver)
		q := opened(t, c.d) // another pager is up
		same(t, what+": Meta", q.Meta(), c.p.Meta())
		commits(t, begun(t, q), 3)
	}
}

// All calls while the device is down.
func TestDown(t *testing.T) {
	c := asked(t)
	c.d.Crash(api.Fall{})
	isDown(t, c)
	isDown(t, c)
	same(t, "the device is down still", c.d.Up(), false)
}

// What answers no error, or ErrOver, does not find it down: the pager goes on when the device is up again.
func TestNotFoundDown(t *testing.T) {
	for what, ask := range blind() {
		c := asked(t)
		c.d.Crash(api.Fall{})
		ask(t, c)
		ask(t, c)
		c.d.Start()
		same(t, what+": Up", c.p.Up(), true)
		same(t, what+": Spare", c.x.Spare(4), true)
		reads(t, c.x, 10, page(33))
		reads(t, c.v, 3, page(2))
		commits(t, c.x, 3)
		whole(t, c.d, []int{2, 5, 6, 7, 10})
	}
	c := asked(t)
	c.d.Crash(api.Fall{})
	c.v.Close()
	c.d.Start()
	same(t, "Up behind Close", c.p.Up(), true)
	sameList(t, "Views", c.p.Views(), nil)
	commits(t, c.x, 3)
}

// A fall that nobody has found changes nothing: all that the pager needs of the device is safe.
func TestFallThatNobodyFound(t *testing.T) {
	c := asked(t)
	for range 3 {
		c.d.Crash(api.Fall{})
		c.d.Start()
	}
	commits(t, c.x, 3)
	c.d.Crash(api.Fall{})
	c.d.Start()
	same(t, "Txn", opened(t, c.d).Meta().Txn, 3)
	commits(t, begun(t, c.p), 4)
}

// ErrDown comes ahead of ErrBusy, ErrViews, ErrLast, ErrFull, ErrArg; ErrOver ahead of it.
func TestDownComesFirst(t *testing.T) {
	d, p := both(t, 4)
	for range 64 {
		viewed(t, p)
	}
	x := begun(t, p)
	takes(t, x, 2, 3)
	setsRoot(t, x, 3, 1, api.OK)
	frees(t, x, api.OK, 3)
	takes(t, x, 3)
	refusesAlloc(t, x, api.ErrFull)
	refusesView(t, p, api.ErrViews)
	refusesBegin(t, p, api.ErrBusy)
	d.Crash(api.Fall{})
	refusesBegin(t, p, api.ErrDown)
	refusesView(t, p, api.ErrDown)
	refusesAlloc(t, x, api.ErrDown)
	refusesCommit(t, x, api.ErrDown)
	same(t, "Spare", x.Spare(-1), false)

	d = laid(t, 8, api.Meta{Txn: api.MaxTxn, High: 4}, nil)
	p = opened(t, d)
	d.Crash(api.Fall{})
	refusesBegin(t, p, api.ErrDown)

	c := asked(t)
	frees(t, c.x, api.OK, 5)
	refusesCommit(t, c.x, api.ErrArg)
	c.d.Crash(api.Fall{})
	refusesCommit(t, c.x, api.ErrDown)
	isOver(t, "over", c.over)
	isClosed(t, c.closed, c.p.Meta())
}

// P11.7: the power fails in a Commit: the transaction is over then, the pager down; what it tells is the last commit's.
func TestDownInTheMidst(t *testing.T) {
	for acts := range 5 {
		c := asked(t)
		last := c.p.Meta()
		c.d.Arm(acts, api.Fall{Torn: -1})
		refusesCommit(t, c.x, api.ErrDown)
		c.d.Start() // found in the midst
		isOver(t, "over", c.x)
		same(t, "Up", c.p.Up(), false)
		same(t, "Meta", c.p.Meta(), last)
		same(t, "Spare", c.p.Spare(), 0)
		sameList(t, "Views", c.p.Views(), []int{1})
		refusesBegin(t, c.p, api.ErrDown)
		refusesView(t, c.p, api.ErrDown)
		refusesRead(t, c.v, 2, api.ErrDown)
		same(t, "what a fall leaves is the last commit", opened(t, c.d).Meta(), last)
	}
	c := asked(t)
	c.d.Arm(5, api.Fall{Torn: -1}) // two pages, a sync, the meta page, a sync
	commits(t, c.x, 3)
	same(t, "Up", c.p.Up(), true)
}

// P11.7: ErrDown at a Commit's beginning leaves the transaction open; nothing has changed.
func TestDownAheadOfCommit(t *testing.T) {
	for _, end := range []func(x *pager.Txn) api.Errno{commitOf, (*pager.Txn).Rollback} {
		c := asked(t)
		c.d.Crash(api.Fall{})
		same(t, "the end", end(c.x), api.ErrDown)
		c.d.Start()
		same(t, "once more", end(c.x), api.ErrDown)
		roots(t, c.x, 5, 3)
		same(t, "Fresh", c.x.Fresh(10), true)
		refusesRead(t, c.x, 10, api.ErrDown)
		refusesBegin(t, c.p, api.ErrDown)
	}
}

// Two pagers have their own say of being down.
func TestTwoDevices(t *testing.T) {
	a, p := both(t, 8)
	b, q := both(t, 8)
	a.Crash(api.Fall{})
	same(t, "Up", [2]bool{p.Up(), q.Up()}, [2]bool{false, true})
	x := begun(t, q)
	takes(t, x, 2)
	commits(t, x, 1)
	for _, d := range []*plate.Plate{a, b} {
		d.Start()
	}
	same(t, "Up", [2]bool{p.Up(), q.Up()}, [2]bool{false, true})
}
