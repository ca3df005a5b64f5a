package query_test

import (
	"fmt"
	"testing"

	"espalier/api"
	"espalier/index"
	"espalier/query"
)

// run is Run, or Slow.
type run = func(*query.Query, *index.Table) ([]api.Record, api.Errno)

func runs() map[string]run {
	return map[string]run{"Run": (*query.Query).Run, "Slow": (*query.Query).Slow}
}

// P20.4, P20.6: ErrArg, whatever is asked.
func TestRunOfNoTable(t *testing.T) {
	for _, text := range []string{"", "limit 0", "where a = 1", "order by a desc limit 3"} {
		for name, call := range runs() {
			l, e := call(ask(t, text), nil)
			same(t, name+" of no table", fmt.Sprint(len(l), e), "0 1")
		}
	}
}

// people is a few records, of which some are alike in a field, have null there, or have it not at all.
func people() []api.Record {
	return []api.Record{
		rec(num(1), "age", num(30), "city", word("b")),
		rec(num(2), "age", num(20), "city", word("a")),
		rec(num(3), "age", null(), "city", word("b")),
		rec(num(4), "city", word("c"), "mail", word("x")),
		rec(num(5), "age", num(30), "city", null()),
		rec(num(6), "age", float(30)),
		rec(num(7), "age", num(30), "city", word("b")),
		rec(word("k"), "age", num(5), "city", word("b"), "z", list(num(1))),
		rec(null(), "age", truth(true)),
	}
}

func indexesOfPeople() []api.Index {
	return []api.Index{by("city", "city"), by("ca", "city", "age"), by("age", "age"), alone("mail", "mail")}
}

// P20.4, P20.6: who is asked for, in which order, how many.
func TestRun(t *testing.T) {
	for _, engine := range engines() {
		for _, indexes := range [][]api.Index{nil, indexesOfPeople(), indexesOfPeople()[1:2]} {
			x := makes(t, plot(engine), indexes, people()...)
			for text, want := range map[string]string{
				"":                                        `null 1 2 3 4 5 6 7 "k"`,
				"order by key":                            `null 1 2 3 4 5 6 7 "k"`,
				"order by key desc":                       `"k" 7 6 5 4 3 2 1 null`,
				"order by key, age desc":                  `null 1 2 3 4 5 6 7 "k"`,
				"order by city":                           `null 5 6 2 1 3 7 "k" 4`,
				"order by city desc":                      `4 "k" 7 3 1 2 6 5 null`,
				"order by city desc, key":                 `4 1 3 7 "k" 2 null 5 6`,
				"order by city, key desc":                 `6 5 null 2 "k" 7 3 1 4`,
				"order by age":                            `3 4 null "k" 2 1 5 7 6`,
				"order by age desc":                       `6 7 5 1 2 "k" null 4 3`,
				"order by city, age":                      `null 5 6 2 3 "k" 1 7 4`,
				"order by city, age desc":                 `6 5 null 2 7 1 "k" 3 4`,
				"order by city desc, age":                 `4 3 "k" 1 7 2 null 5 6`,
				"order by z desc":                         `"k" 7 6 5 4 3 2 1 null`,
				"order by none":                           `null 1 2 3 4 5 6 7 "k"`,
				"order by none desc":                      `"k" 7 6 5 4 3 2 1 null`,
				`where city = "b"`:                        `1 3 7 "k"`,
				`where city = "b" order by age`:           `3 "k" 1 7`,
				`where city = "b" order by age desc`:      `7 1 "k" 3`,
				`where city = "b" order by age desc, key`: `1 7 "k" 3`,
				`where city = "b" order by city desc`:     `"k" 7 3 1`,
				`where city = "b" and age = 30`:           `1 7`,
				`where city = "b" and age = 30 order by city, age desc`: `7 1`,
				`where city >= "b"`: `1 3 4 7 "k"`,
				`where city > "a" and city < "c" order by city desc, age desc`: `7 1 "k" 3`,
				"where city is null":                                `null 5 6`,
				"where city is null order by age":                   `null 5 6`,
				"where age > 5":                                     `1 2 5 7`,
				"where age > 5 order by age desc":                   `7 5 1 2`,
				"where age >= false":                                `null`,
				"where not age > 5":                                 `null 3 4 6 "k"`,
				"where age between 5 and 20":                        `2 "k"`,
				"where age in (5, 30.0)":                            `6 "k"`,
				"where key > 3":                                     `4 5 6 7`,
				"where key <= 3 order by key desc":                  `3 2 1`,
				"where key = 4":                                     `4`,
				"where key is null":                                 `null`,
				"where key = 40":                                    ``,
				`where mail = "x"`:                                  `4`,
				`where mail <> "x"`:                                 ``,
				"where age > 5 and age < 5":                         ``,
				"where age > 9 and age < 2":                         ``,
				`where city = "b" or city = "a"`:                    `1 2 3 7 "k"`,
				`where (city = "b" or age is null) and not key = 3`: `1 4 7 "k"`,
			} {
				answers(t, x, text, want)
			}
		}
	}
}

// P20.4, P20.6: only the first so many, of those that are sorted, and of those that are not.
func TestRunWithALimit(t *testing.T) {
	for _, engine := range engines() {
		x := makes(t, plot(engine), indexesOfPeople(), people()...)
		for text, want := range map[string][]string{
			"":                                   {`null`, `1`, `2`, `3`, `4`, `5`, `6`, `7`, `"k"`},
			"order by age desc":                  {`6`, `7`, `5`, `1`, `2`, `"k"`, `null`, `4`, `3`},
			`where city = "b" order by age`:      {`3`, `"k"`, `1`, `7`},
			`where city = "b" order by age desc`: {`7`, `1`, `"k"`, `3`},
			`where city = "b"`:                   {`1`, `3`, `7`, `"k"`},
			"where age > 5 and not key = 2":      {`1`, `5`, `7`},
			"where key > 5":                      {`6`, `7`},
			"where key = 40":                     {},
		} {
			all := ""
			for n := range len(want) + 1 {
				answers(t, x, fmt.Sprint(text, " limit ", n), all)
				if n < len(want) && n > 0 {
					all += " "
				}
				if n < len(want) {
					all += want[n]
				}
			}
			for _, n := range []int{len(want) + 1, 1000, api.MaxLimit} {
				answers(t, x, fmt.Sprint(text, " limit ", n), all)
			}
		}
	}
}

// P20.4, P20.6: of a table that is gone ErrTable, also where no record is asked for; of one that is made anew what it has then.
func TestRunOfATableThatIsGone(t *testing.T) {
	for _, engine := range engines() {
		g := plot(engine)
		x, _ := index.Make(g, "p", indexesOfPeople())
		texts := []string{"", "limit 0", "limit 1", `where city = "b"`, `where city = "b" limit 0`, "order by age limit 0", "where key = 3"}
		for _, text := range texts {
			for name, call := range runs() {
				l, e := call(ask(t, text), x)
				same(t, name+" of an empty table of "+text, fmt.Sprint(len(l), e), "0 0")
			}
		}
		same(t, "Drop", index.Drop(g, "p"), api.OK)
		for _, text := range texts {
			for name, call := range runs() {
				l, e := call(ask(t, text), x)
				same(t, name+" of a table that is gone of "+text, fmt.Sprint(len(l), e), "0 191")
			}
		}
		y, _ := index.Make(g, "p", nil)
		y.Put(rec(num(3), "city", word("b")))
		answers(t, x, `where city = "b"`, "3")
	}
}

// P20.6: Run goes by the index that its plan names, whatever stands there.
func TestRunGoesByItsPlan(t *testing.T) {
	for _, engine := range engines() {
		g := plot(engine)
		x, _ := index.Make(g, "p", []api.Index{by("a", "a")})
		for i := range int64(5) {
			x.Put(rec(num(i), "a", num(1), "b", num(i)))
		}
		entry := func(n, key int64) []byte { return []byte(coded(num(n), num(key))) }
		g.Delete("i/p/a", entry(1, 2))
		g.Put("i/p/a", entry(1, 3), nil)
		g.Put("i/p/a", entry(0, 4), nil)
		g.Put("i/p/a", entry(2, 0), nil)
		for text, want := range map[string]string{
			"where a = 1": "0 1 3 4", "where a = 1 order by a desc": "4 3 1 0", "where a = 1 order by b desc": "4 3 1 0", "where a >= 0": "0 0 1 3 4 4", "where a > 0 limit 3": "0 0 1", "where a = 2": "", "where a = 0": "",
			"where key >= 0": "0 1 2 3 4", "where b = 2": "2", "where a in (1)": "0 1 2 3 4", "where a > 1": "", "where key = 2 and a = 1": "",
		} {
			l, e := ask(t, text).Run(x)
			same(t, "Run of "+text, fmt.Sprint(keysOf(l), "; ", e), want+"; 0")
		}
		for text, want := range map[string]string{"where a = 1": "0 1 2 3 4", "where a > 1": "", "where a >= 0 order by b": "0 1 2 3 4"} {
			l, e := ask(t, text).Slow(x)
			same(t, "Slow of "+text, fmt.Sprint(keysOf(l), "; ", e), want+"; 0")
		}
	}
}
