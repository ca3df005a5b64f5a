package pager_test

import (
	"bytes"
	"fmt"
	"math"
	"testing"

	"espalier/api"
	"espalier/meta"
	"espalier/pager"
	"espalier/plate"
)

// noEngines are none of the two.
func noEngines() []int {
	return []int{math.MinInt, -1, 0, 3, 4, 256, 257, 258, 1<<32 + 1, 1<<32 + 2, math.MaxInt}
}

// P11.1: which errors there are, and which comes first; nothing is done to the device.
func TestOpenRefuses(t *testing.T) {
	for _, engine := range append(noEngines(), api.Plain, api.Packed) {
		refusesOpen(t, "Open of nil", nil, engine, api.ErrArg)
	}
	up, down := device(t, 8), device(t, 8)
	down.Crash(api.Fall{})
	for _, engine := range noEngines() {
		refusesOpen(t, fmt.Sprintf("Open with the engine %d", engine), up, engine, api.ErrEngine)
		refusesOpen(t, fmt.Sprintf("Open with the engine %d of one that is down", engine), down, engine, api.ErrEngine)
	}
	refusesOpen(t, "Open of one that is down", down, api.Plain, api.ErrDown)
	refusesOpen(t, "Open of one that is down", down, api.Packed, api.ErrDown)
	for _, d := range []*plate.Plate{up, down} {
		same(t, "Counts", d.Counts(), api.Counts{})
		sameBytes(t, "Image", d.Image(), make([]byte, 8*512))
	}
	same(t, "Up", down.Up(), false)
}

// P11.1: ErrDown comes ahead of all that the pages could say.
func TestOpenOfOneThatIsDown(t *testing.T) {
	other := laid(t, 8, api.Meta{Engine: api.Packed, Txn: 4, High: 9}, map[int][]byte{3: page(1)})
	spoilt := laid(t, 8, api.Meta{Txn: 4, Free: 3, High: 8}, map[int][]byte{3: page(1)})
	none := loaded(t, append(make([]byte, 7*512), page(1)...))
	for d, want := range map[*plate.Plate]api.Errno{other: api.ErrFormat, spoilt: api.ErrCorrupt, none: api.ErrNoMeta} {
		refusesOpen(t, "Open", d, api.Plain, want)
		d.Crash(api.Fall{})
		refusesOpen(t, "Open of one that is down", d, api.Plain, api.ErrDown)
		d.Start()
		refusesOpen(t, "Open of one that is up again", d, api.Plain, want)
	}
}

// P11.1: a new device is begun, of whatever size: one write, one sync.
func TestOpenOfANewDevice(t *testing.T) {
	for _, size := range sizes() {
		for _, engine := range []int{api.Plain, api.Packed} {
			d := plate.New(size, 5)
			p, e := pager.Open(d, engine)
			same(t, "Open", e, api.OK)
			m := api.Meta{Engine: engine, Page: size, High: 2}
			same(t, "Meta", p.Meta(), m)
			b, _ := meta.Encode(m)
			sameBytes(t, "what is safe", d.Safe(), append(b, make([]byte, 4*size)...))
			c := d.Counts()
			same(t, "Writes and Syncs", [2]int{c.Writes, c.Syncs}, [2]int{1, 1})
			same(t, "Up", p.Up(), true)
			sameList(t, "Views", p.Views(), nil)
			same(t, "Spare", p.Spare(), 3)
			again, e := pager.Open(d, engine)
			same(t, "Open again", e, api.OK)
			same(t, "Meta again", again.Meta(), m)
			same(t, "Writes of Open again", d.Counts().Writes, 1)
		}
	}
}

// P11.1: whatever the meta pages hold, if that is none and all others are zeros.
func TestOpenBeginsAnew(t *testing.T) {
	good := metaPage(t, api.Meta{Txn: 7, High: 3})
	torn := append(bytes.Clone(good[:200]), make([]byte, 312)...)
	for what, c := range map[string][2][]byte{
		"bytes":                 {page(1), page(2)},
		"only page 1":           {zero, page(2)},
		"torn ones":             {torn, torn},
		"at the other's place":  {good, metaPage(t, api.Meta{Txn: 0, High: 2})},
		"at the other's, later": {metaPage(t, api.Meta{Txn: 9, High: 2}), metaPage(t, api.Meta{Txn: 8, High: 2})},
		"list pages":            {listPage(0), listPage(3, 4, 5)},
	} {
		d := loaded(t, append(bytes.Join(c[:], nil), make([]byte, 3*512)...))
		p, e := pager.Open(d, api.Packed)
		same(t, what, e, api.OK)
		m := plainMeta(api.Meta{Engine: api.Packed, High: 2})
		same(t, what+": Meta", p.Meta(), m)
		sameBytes(t, what+": page 0", d.Safe()[:512], metaPage(t, m))
		sameBytes(t, what+": page 1 stays", d.Safe()[512:1024], c[1])
		x := begun(t, p)
		takes(t, x, 2)
		commits(t, x, 1)
		q, e := pager.Open(d, api.Packed)
		same(t, what+": Open behind a commit", e, api.OK)
		same(t, what+": its Meta", q.Meta(), plainMeta(api.Meta{Engine: api.Packed, Txn: 1, High: 3}))
	}
}

// P11.1: no meta page, but a byte that is not 0, wherever it is.
func TestOpenOfOtherPages(t *testing.T) {
	for _, at := range []int{2 * 512, 2*512 + 1, 3*512 - 1, 3 * 512, 5*512 + 77, 8*512 - 512, 8*512 - 1} {
		for _, first := range [][]byte{zero, page(3), metaPage(t, api.Meta{Txn: 1, High: 8})} {
			image := append(bytes.Clone(first), make([]byte, 7*512)...)
			image[at] = 1
			d := loaded(t, image)
			refusesOpen(t, fmt.Sprintf("a byte at %d", at), d, api.Plain, api.ErrNoMeta)
			sameBytes(t, "Image", d.Image(), image)
			same(t, "Writes", d.Counts().Writes, 0)
			same(t, "Syncs", d.Counts().Syncs, 0)
		}
	}
}

// P11.1: of two meta pages that one counts which Choose picks, and its engine and High alone are looked at.
func TestOpenTakesTheLaterOne(t *testing.T) {
	six, seven := api.Meta{Txn: 6, Root: 2, Count: 1, High: 4}, api.Meta{Txn: 7, Root: 3, Count: 2, High: 5}
	eight := api.Meta{Txn: 8, Root: 4, Count: 3, High: 7}
	alien := api.Meta{Engine: api.Packed, Txn: 5, High: 4000}
	alienLater := api.Meta{Engine: api.Packed, Txn: 9, High: 4}
	for _, c := range []struct {
		a, b api.Meta
		want api.Meta
		e    api.Errno
	}{
		{six, seven, seven, api.OK},
		{eight, seven, eight, api.OK},
		{six, alien, six, api.OK},
		{six, alienLater, api.Meta{}, api.ErrFormat},
		{seven, alien, api.Meta{}, api.ErrFormat}, // the first one stands at the wrong place
	} {
		d := loaded(t, bytes.Join([][]byte{metaPage(t, c.a), metaPage(t, c.b), make([]byte, 6*512)}, nil))
		p, e := pager.Open(d, api.Plain)
		same(t, "Open", e, c.e)
		if e == api.OK {
			same(t, "Meta", p.Meta(), plainMeta(c.want))
		}
		same(t, "Writes", d.Counts().Writes, 0)
	}
}

// P11.1: another engine, or more pages than there are; ahead of what is wrong with the list.
func TestOpenOfAnotherFormat(t *testing.T) {
	for _, with := range []map[int][]byte{nil, {3: listPage(0)}} {
		for _, m := range []api.Meta{
			{Engine: api.Packed, Txn: 4, High: 8},
			{Engine: api.Packed, Txn: 4, Free: 3, High: 8},
			{Txn: 4, High: 9},
			{Txn: 4, Free: 3, High: 9},
			{Txn: 4, Free: 3, High: 65536},
			{Engine: api.Packed, Txn: 4, Free: 3, High: 9},
			{Txn: 4, Free: 65535, High: 65536},
		} {
			d := laid(t, 8, m, with)
			refusesOpen(t, fmt.Sprintf("%+v", m), d, api.Plain, api.ErrFormat)
			same(t, "Writes", d.Counts().Writes, 0)
		}
	}
	p := opened(t, laid(t, 8, api.Meta{Txn: 4, High: 8}, nil))
	same(t, "High at Pages", p.Meta().High, 8)
	same(t, "Spare", p.Spare(), 0)
}

// P11.1: lists that are good: all that they list is free, the rest is in use.
func TestOpenOfLists(t *testing.T) {
	for what, c := range map[string]struct {
		m    api.Meta
		with map[int][]byte
		free []int
	}{
		"none":                  {api.Meta{Txn: 4, High: 10}, nil, nil},
		"one that lists none":   {api.Meta{Txn: 4, Free: 9, High: 10}, map[int][]byte{9: listPage(0)}, nil},
		"one":                   {api.Meta{Txn: 4, Root: 2, Count: 1, Free: 3, Listed: 3, High: 10}, map[int][]byte{3: listPage(0, 4, 6, 9)}, []int{4, 6, 9}},
		"one at the edges":      {api.Meta{Txn: 4, Root: 8, Count: 1, Free: 3, Listed: 2, High: 10}, map[int][]byte{3: listPage(0, 2, 9)}, []int{2, 9}},
		"three, falling":        {api.Meta{Txn: 4, Free: 9, Listed: 4, High: 10}, map[int][]byte{9: listPage(5, 8), 5: listPage(2, 3, 4), 2: listPage(0, 7)}, []int{3, 4, 7, 8}},
		"the first lists none":  {api.Meta{Txn: 4, Free: 3, Listed: 1, High: 10}, map[int][]byte{3: listPage(4), 4: listPage(0, 5)}, []int{5}},
		"all but the root":      {api.Meta{Txn: 4, Root: 5, Count: 9, Free: 2, Listed: 6, High: 10}, map[int][]byte{2: listPage(0, 3, 4, 6, 7, 8, 9)}, []int{3, 4, 6, 7, 8, 9}},
		"all, without a root":   {api.Meta{Txn: 4, Free: 2, Listed: 7, High: 10}, map[int][]byte{2: listPage(0, 3, 4, 5, 6, 7, 8, 9)}, row(3, 7)},
		"all of them its pages": {api.Meta{Txn: 4, Free: 9, High: 10}, map[int][]byte{2: listPage(0), 3: listPage(2), 4: listPage(3), 5: listPage(4), 6: listPage(5), 7: listPage(6), 8: listPage(7), 9: listPage(8)}, nil},
	} {
		d := laid(t, 12, c.m, c.with)
		was := d.Image()
		p := opened(t, d)
		same(t, what+": Meta", p.Meta(), plainMeta(c.m))
		x := begun(t, p)
		for n := 2; n < 10; n++ {
			b, e := x.Read(n)
			isFree := bytes.Contains(listPage(0, c.free...)[8:508], []byte{0, 0, 0, byte(n)})
			same(t, fmt.Sprintf("%s: page %d is in use", what, n), e == api.OK, !isFree)
			if e == api.OK {
				sameBytes(t, what, b, onDevice(d, n))
			}
		}
		sameList(t, what+": what may be taken", rest(t, x), append(c.free, 10, 11))
		sameBytes(t, what+": Image", d.Image(), was)
		same(t, what+": Writes", d.Counts().Writes, 0)
	}
}

// P11.1: lists that are spoilt in every way.
func TestOpenOfSpoiltLists(t *testing.T) {
	type with = map[int][]byte
	three := api.Meta{Txn: 4, Root: 2, Count: 1, Free: 3, Listed: 3, High: 10}
	good := listPage(0, 4, 6, 9)
	otherSum := bytes.Clone(good)
	otherSum[511]++
	for what, c := range map[string]struct {
		m    api.Meta
		with with
	}{
		"zeros":                   {three, nil},
		"another kind":            {three, with{3: summed(append([]byte{4}, good[1:]...))}},
		"a wrong sum":             {three, with{3: otherSum}},
		"not rising":              {three, with{3: listPage(0, 6, 4, 9)}},
		"one page twice in one":   {three, with{3: listPage(0, 4, 4, 9)}},
		"a second one of zeros":   {three, with{3: listPage(5, 4, 6, 9)}},
		"below 2: 0":              {three, with{3: listPage(0, 0, 4, 6)}},
		"below 2: 1":              {three, with{3: listPage(0, 1, 4, 6)}},
		"High":                    {three, with{3: listPage(0, 4, 6, 10)}},
		"above High":              {three, with{3: listPage(0, 4, 6, 11)}},
		"above the device":        {three, with{3: listPage(0, 4, 6, 65535)}},
		"next is 1":               {three, with{3: listPage(1, 4, 6, 9), 1: listPage(0)}},
		"next is High":            {three, with{3: listPage(10, 4, 6, 9), 10: listPage(0)}},
		"next is above High":      {three, with{3: listPage(11, 4, 6, 9), 11: listPage(0)}},
		"next is no page":         {three, with{3: listPage(65535, 4, 6, 9)}},
		"itself listed":           {three, with{3: listPage(0, 3, 6, 9)}},
		"its next one listed":     {three, with{3: listPage(6, 4, 6, 9), 6: listPage(0)}},
		"an earlier one listed":   {three, with{3: listPage(5, 4, 6), 5: listPage(0, 3)}},
		"listed in two":           {three, with{3: listPage(5, 4, 6), 5: listPage(0, 6)}},
		"the root listed":         {three, with{3: listPage(0, 2, 6, 9)}},
		"the root its next one":   {three, with{3: listPage(2, 4, 6, 9), 2: listPage(0)}},
		"too few":                 {three, with{3: listPage(0, 4, 6)}},
		"none":                    {three, with{3: listPage(0)}},
		"too many":                {three, with{3: listPage(0, 4, 5, 6, 9)}},
		"too many, in two":        {three, with{3: listPage(5, 4, 6), 5: listPage(0, 7, 8)}},
		"too few, in two":         {three, with{3: listPage(5, 4), 5: listPage(0, 7)}},
		"a loop of one":           {api.Meta{Txn: 4, Free: 3, High: 10}, with{3: listPage(3)}},
		"a loop of two":           {api.Meta{Txn: 4, Free: 3, High: 10}, with{3: listPage(4), 4: listPage(3)}},
		"a loop of three, behind": {api.Meta{Txn: 4, Free: 3, Listed: 1, High: 10}, with{3: listPage(4, 9), 4: listPage(5), 5: listPage(6), 6: listPage(4)}},
		"none listed, one is":     {api.Meta{Txn: 4, Free: 3, High: 10}, with{3: listPage(0, 4)}},
	} {
		d := laid(t, 12, c.m, c.with)
		was := d.Image()
		refusesOpen(t, what, d, api.Plain, api.ErrCorrupt)
		sameBytes(t, what+": Image", d.Image(), was)
		same(t, what+": Writes", d.Counts().Writes, 0)
		same(t, what+": Syncs", d.Counts().Syncs, 0)
	}
	opened(t, laid(t, 12, three, with{3: good}))
}

// P11.1: any byte of a list page that is another one spoils it.
func TestOpenOfListsWithAnyByteChanged(t *testing.T) {
	m := api.Meta{Txn: 4, Root: 2, Count: 1, Free: 3, Listed: 3, High: 10}
	for at := range 512 {
		b := listPage(0, 4, 6, 9)
		b[at] ^= byte(1 + at%255)
		refusesOpen(t, fmt.Sprintf("byte %d changed", at), laid(t, 12, m, map[int][]byte{3: b}), api.Plain, api.ErrCorrupt)
	}
}

// P11.1, P11.10: the power fails while a device is begun anew, with whatever stays: it can be begun again.
func TestPowerFailsInOpen(t *testing.T) {
	for acts := range 2 {
		falls := []api.Fall{{Torn: -1}, {Keep: []int{0}, Torn: -1}}
		for at := range 514 {
			falls = append(falls, api.Fall{Torn: 0, At: at})
		}
		for _, first := range [][]byte{zero, page(9)} {
			for _, f := range falls {
				d := loaded(t, bytes.Join([][]byte{first, page(8), make([]byte, 2*512)}, nil))
				d.Arm(acts, f)
				refusesOpen(t, "the power fails", d, api.Plain, api.ErrDown)
				same(t, "Up", d.Up(), false)
				same(t, "Writes", d.Counts().Writes, 1)
				same(t, "Syncs", d.Counts().Syncs, acts)
				d.Start()
				p := opened(t, d)
				same(t, "Meta", p.Meta(), plainMeta(api.Meta{High: 2}))
				commits(t, begun(t, p), 1)
				same(t, "Meta", opened(t, d).Meta(), plainMeta(api.Meta{Txn: 1, High: 2}))
			}
		}
	}
	d := device(t, 4)
	d.Arm(2, api.Fall{Torn: -1})
	opened(t, d)
}
