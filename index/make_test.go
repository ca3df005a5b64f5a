package index_test

import (
	"fmt"
	"strings"
	"testing"

	"espalier/api"
	"espalier/grove"
	"espalier/index"
)

const (
	mostShort  = 30
	mostTrees  = 256
	firstTable = "p"
)

// shortNames is names, and whether they are short ones.
func shortNames() map[string]bool {
	names := map[string]bool{
		"": false, "a": true, "z": true, "0": true, "9": true, "-": true, "_": true, ".": true, "..": true, "key": true, "t-indexes": true, "0a": true,
		long(mostShort, 'a'): true, long(mostShort+1, 'a'): false, long(64, 'a'): false, long(70000, 'a'): false,
		long(mostShort-1, 'a') + "A": false, long(mostShort-1, 'a') + ".": true, "a b": false, "é": false, "a/b": false, "/": false, "t/p": false,
	}
	for b := range 256 {
		is := b >= 'a' && b <= 'z' || b >= '0' && b <= '9' || b == '-' || b == '_' || b == '.'
		for _, name := range []string{"%s", "a%sz", "%sa", "0%s"} {
			names[strings.ReplaceAll(name, "%s", string([]byte{byte(b)}))] = is
		}
	}
	return names
}

// P19.1, P19.2: which names a table may have; of others nothing is there, nothing is made, nothing changed.
func TestNamesOfTables(t *testing.T) {
	for _, engine := range engines() {
		b := newBed(t, "names of tables", engine, 512, 400)
		for name, is := range shortNames() {
			if name == firstTable {
				continue
			}
			what := fmt.Sprintf("the name %.40q", name)
			b.unchanged(what+" of none", func() {
				x, e := index.Open(b.g, name)
				same(t, what+": Open of none", fmt.Sprint(x != nil, e), "false 191")
				same(t, what+": Drop of none", index.Drop(b.g, name), api.ErrTable)
			})
			if !is {
				b.unchanged(what, func() {
					x, e := index.Make(b.g, name, nil)
					same(t, what+": Make", fmt.Sprint(x != nil, e), "false 191")
				})
				continue
			}
			x := makes(t, b.g, name, by("x", "a"))
			puts(t, x, rec(num(1), "a", num(2)), false, api.OK)
			y, e := index.Open(b.g, name)
			same(t, what+": Open", fmt.Sprint(y != nil, e), "true 0")
			sameNames(t, b.g, sorted("i/"+name+"/x", "t-indexes", "t/p", "t/"+name)...)
			same(t, what+": Drop", index.Drop(b.g, name), api.OK)
		}
		b.holds("behind all")
	}
}

// P19.1, P19.8: which names an index may have.
func TestNamesOfIndexes(t *testing.T) {
	for _, engine := range engines() {
		g := grove.Open(newRoom(engine, 512, 400), 0, 0)
		for name, is := range shortNames() {
			for _, table := range []string{"p", long(mostShort, 't')} {
				asIndexes(t, g, table, fmt.Sprintf("an index of the name %.40q", name), is, by(name, "a"))
			}
		}
	}
}

// asIndexes holds whether a table may be made with these indexes; Entry says the same of each one, if there is one alone.
func asIndexes(t *testing.T, g *grove.Grove, table, what string, is bool, indexes ...api.Index) {
	t.Helper()
	want := api.ErrIndex
	if is {
		want = api.OK
	}
	x, e := index.Make(g, table, indexes)
	same(t, what+": Make", fmt.Sprint(x != nil, e), fmt.Sprint(is, want))
	if len(indexes) == 1 {
		entry, e := index.Entry(indexes[0], rec(num(1)))
		same(t, what+": Entry", fmt.Sprint(len(entry) > 0, e), fmt.Sprint(is, want))
	}
	if x == nil {
		return
	}
	same(t, what+": Indexes", formsOfIndexes(x.Indexes()), formsOfIndexes(indexes))
	told, _, e := g.Get("t-indexes", []byte(table))
	same(t, what+": the pair", fmt.Sprintf("%q %d", told, e), fmt.Sprintf("%q 0", definition(indexes)))
	same(t, what+": Drop", index.Drop(g, table), api.OK)
	sameNames(t, g, "t-indexes")
	stop(t)
}

// fieldNames is names, and whether they are those of fields.
func fieldNames() map[string]bool {
	names := map[string]bool{
		"": false, "a": true, "z": true, "key": false, "keys": true, "ke": true, "kez": true, "a.key": true, "a/b": false, "é": false, "a b": false, "0a": false,
		long(64, 'a'): true, long(65, 'a'): false, long(70000, 'a'): false, long(63, 'a') + "9": true, long(63, 'a') + "A": false, long(64, 'a') + "A": false,
	}
	for b := range 256 {
		letter := b >= 'a' && b <= 'z'
		is := letter || b >= '0' && b <= '9' || b == '-' || b == '_' || b == '.'
		names[string([]byte{byte(b)})] = letter
		names[string([]byte{byte(b), 'a'})] = letter
		names[string([]byte{'a', byte(b)})] = is
		names[string([]byte{'a', byte(b), 'z'})] = is
	}
	return names
}

// knownFields is for tests that ask often; a name that is not among them is a field's.
var knownFields = fieldNames()

// P19.1, P19.8: which fields an index may have: their names, how many there are, none twice, in any order.
func TestFieldsOfIndexes(t *testing.T) {
	for _, engine := range engines() {
		g := grove.Open(newRoom(engine, 512, 400), 0, 0)
		for name, is := range fieldNames() {
			what := fmt.Sprintf("the field %.40q", name)
			asIndexes(t, g, "p", what+" alone", is, by("x", name))
			asIndexes(t, g, "p", what+" behind others", is, alone("x", "keyed", "beside", name))
			asIndexes(t, g, "p", what+" in another index", is, by("x", "a"), by("y", name))
		}
		fields := []string{"h", "g", "f", "e", "d", "c", "b", "a", "i"}
		for n := range 10 {
			asIndexes(t, g, "p", fmt.Sprint(n, " fields"), n >= 1 && n <= 8, by("x", fields[:n]...))
			asIndexes(t, g, "p", fmt.Sprint(n, " fields, Unique"), n >= 1 && n <= 8, alone("x", fields[:n]...))
			asIndexes(t, g, "p", fmt.Sprint(n, " fields in the second index"), n >= 1 && n <= 8, by("x", "a"), by("y", fields[:n]...))
		}
		for i := range 8 {
			for j := range i {
				twice := append([]string{}, fields[:8]...)
				twice[i] = twice[j]
				asIndexes(t, g, "p", fmt.Sprint("a field twice: ", twice), false, by("x", twice...))
			}
		}
		asIndexes(t, g, "p", "longest names", true, by(long(30, 'x'), longest("a")...), alone(long(30, 'y'), longest("b")...))
	}
}

// longest is as many fields as an index may have, with as long names as may be.
func longest(first string) []string {
	var l []string
	for i := range 8 {
		l = append(l, first+long(62, 'n')+fmt.Sprint(i))
	}
	return l
}

// P19.1: up to 16 indexes, no two of one name.
func TestHowManyIndexes(t *testing.T) {
	for _, engine := range engines() {
		g := grove.Open(newRoom(engine, 512, 400), 0, 0)
		for n := range 19 {
			asIndexes(t, g, "p", fmt.Sprint(n, " indexes"), n <= 16, several(n)...)
		}
		asIndexes(t, g, "p", "70 indexes", false, several(70)...)
		for i := range 16 {
			for j := range i {
				l := several(16)
				l[i].Name = l[j].Name
				asIndexes(t, g, "p", fmt.Sprintf("%d and %d of one name", j, i), false, l...)
			}
		}
		asIndexes(t, g, "p", "the same one twice", false, by("x", "a"), by("x", "a"))
		asIndexes(t, g, "p", "the same fields in two", true, by("x", "a", "b"), by("y", "a", "b"), alone("z", "a", "b"))
		sixteen := several(16)
		for i := range sixteen {
			sixteen[i].Name = long(28, 'n') + fmt.Sprintf("%02d", i)
			sixteen[i].Fields = longest("f")
		}
		asIndexes(t, g, long(30, 't'), "16 indexes as long as may be", true, sixteen...)
	}
}

// several is that many indexes.
func several(n int) []api.Index {
	var l []api.Index
	for i := range n {
		l = append(l, api.Index{Name: fmt.Sprint("x", i), Fields: []string{fmt.Sprint("f", i), "a"}, Unique: i%3 == 0})
	}
	return l
}

// P19.1: ErrThere, where the table, or one of the trees that it would have, is there; other trees do no harm.
func TestWhatIsThereAlready(t *testing.T) {
	for _, engine := range engines() {
		for _, c := range []struct {
			tree, key string
			want      api.Errno
		}{
			{"t/p", "", api.ErrThere}, {"i/p/x", "", api.ErrThere}, {"i/p/y", "", api.ErrThere}, {"t-indexes", "p", api.ErrThere},
			{"t-indexes", "", api.OK}, {"t-indexes", "pp", api.OK}, {"t-indexes", "t/p", api.OK}, {"t/pp", "", api.OK}, {"t", "", api.OK}, {"t/", "", api.OK}, {"p", "", api.OK},
			{"i/p/z", "", api.OK}, {"i/p/xx", "", api.OK}, {"i/p", "", api.OK}, {"i/p/", "", api.OK}, {"i/pp/x", "", api.OK}, {"x", "", api.OK},
		} {
			room := newRoom(engine, 512, 400)
			g := grove.Open(room, 0, 0)
			same(t, c.tree, g.Make(c.tree), api.OK)
			if c.key != "" {
				_, e := g.Put(c.tree, []byte(c.key), []byte("v"))
				same(t, c.tree, e, api.OK)
			}
			image := room.image()
			x, e := index.Make(g, "p", []api.Index{by("x", "a"), by("y", "b")})
			what := fmt.Sprintf("Make where there is %s, %q", c.tree, c.key)
			same(t, what, fmt.Sprint(x != nil, e), fmt.Sprint(c.want == api.OK, c.want))
			if c.want != api.OK {
				same(t, what+": the pages", room.image() == image, true)
				continue
			}
			puts(t, x, rec(num(1), "a", num(2)), false, api.OK)
			if c.key != "" {
				v, is, e := g.Get(c.tree, []byte(c.key))
				same(t, what+": that stays", fmt.Sprintf("%s %v %d", v, is, e), "v true 0")
			}
		}
	}
}

// P19.1: a table that is there is there, whatever indexes the new one would have.
func TestMakeTwice(t *testing.T) {
	for _, engine := range engines() {
		b := newBed(t, "made twice", engine, 512, 400, by("x", "a"))
		b.put(rec(num(1), "a", num(2)))
		for _, l := range [][]api.Index{nil, {by("x", "a")}, {by("y", "b")}, several(16)} {
			b.unchanged("Make again", func() {
				x, e := index.Make(b.g, "p", l)
				same(t, "Make again", fmt.Sprint(x != nil, e), "false 151")
			})
		}
		b.holds("behind it")
		b.tells("behind it")
	}
}

// treed is a grove with that many trees; with t-indexes among them or not.
func treed(t *testing.T, engine, count int, with bool) (*room, *grove.Grove) {
	t.Helper()
	r := newRoom(engine, 512, 4000)
	g := grove.Open(r, 0, 0)
	if with {
		same(t, "Make", g.Make("t-indexes"), api.OK)
		count--
	}
	for i := range count {
		same(t, "Make", g.Make(fmt.Sprintf("tree-%03d", i)), api.OK)
	}
	return r, g
}

// P19.1: 256 trees there may be, t-indexes among them, whether it is there or not.
func TestHowManyTrees(t *testing.T) {
	t.Parallel()
	for _, engine := range engines() {
		for _, with := range []bool{false, true} {
			for _, indexes := range []int{0, 1, 16} {
				own := 1 + indexes
				if !with {
					own++
				}
				for _, beside := range []int{mostTrees, mostTrees - own + 1, mostTrees - own} {
					r, g := treed(t, engine, beside, with)
					image := r.image()
					fits := beside+own <= mostTrees
					what := fmt.Sprintf("%d trees, %d indexes, t-indexes there: %v", beside, indexes, with)
					x, e := index.Make(g, "p", several(indexes))
					if !fits {
						same(t, what, fmt.Sprint(x != nil, e), fmt.Sprint(false, api.ErrTrees))
						same(t, what+": the pages", r.image() == image, true)
						continue
					}
					same(t, what, fmt.Sprint(x != nil, e), "true 0")
					_, n := g.Root()
					same(t, what+": trees", n, beside+own)
				}
			}
		}
	}
}

// P19.1, R5: of several errors the one that is named first.
func TestWhichErrorOfMakeComesFirst(t *testing.T) {
	for _, engine := range engines() {
		r, g := treed(t, engine, mostTrees-2, true)
		makes(t, g, "p", by("x", "a"))
		_, n := g.Root()
		same(t, "trees", n, mostTrees)
		none := []api.Index{{Name: "x"}}
		good := []api.Index{by("x", "a")}
		r.grants = 0
		r.acts = nil
		for _, c := range []struct {
			g       *grove.Grove
			name    string
			indexes []api.Index
			want    api.Errno
		}{
			{nil, "P", none, api.ErrArg}, {nil, "p", none, api.ErrArg}, {nil, "p", nil, api.ErrArg},
			{g, "P", none, api.ErrTable}, {g, "", good, api.ErrTable}, {g, "P", several(17), api.ErrTable},
			{g, "p", none, api.ErrIndex}, {g, "q", several(17), api.ErrIndex}, {g, "q", append(several(2), several(1)...), api.ErrIndex},
			{g, "p", good, api.ErrThere}, {g, "p", nil, api.ErrThere}, {g, "q", good, api.ErrTrees}, {g, "q", nil, api.ErrTrees},
		} {
			x, e := index.Make(c.g, c.name, c.indexes)
			same(t, fmt.Sprintf("Make(%v, %q, %d indexes)", c.g != nil, c.name, len(c.indexes)), fmt.Sprint(x != nil, e), fmt.Sprint(false, c.want))
		}
		r.justRead(t, "what is refused", 0)
		same(t, "Make where nothing but room is wanting", wantsRoom(t, engine), api.ErrFull)
	}
}

// wantsRoom is what Make answers on a bench that is too small.
func wantsRoom(t *testing.T, engine int) api.Errno {
	t.Helper()
	x, e := index.Make(grove.Open(newRoom(engine, 512, 10), 0, 0), "p", nil)
	same(t, "beside the error", x, nil)
	return e
}
