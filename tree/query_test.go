package tree_test

import (
	"math"
	"slices"
	"strings"
	"testing"

	"refrain/api"
	"refrain/tree"
)

// plain gives a small query.
func plain() api.Query {
	return api.Query{Comps: []api.Comp{{Type: "T", Var: "a"}}, Strategy: api.Any, Items: []api.Item{{Name: "n", Expr: number(1)}}}
}

// with gives the small query, changed.
func with(changes ...func(q *api.Query)) api.Query {
	q := plain()
	for _, change := range changes {
		change(&q)
	}
	return q
}

// writesQuery holds Print and Check against the text that a query has, and reads that.
func writesQuery(t *testing.T, q api.Query, want string) {
	t.Helper()
	if got, err := tree.Print(q); got != want || err != api.OK {
		t.Errorf("P6.2: Print(%.300v) = %.80q, %d, want %.80q", q, got, err, want)
		return
	}
	if err := tree.Check(q); err != api.OK {
		t.Errorf("P6.1: Check(%q) = %d", want, err)
	}
	r := readerOf(want)
	if read := r.query(); !r.ended() || !sameQuery(read, q) {
		t.Errorf("P6.4: %q is the text of %+v, and reads as %+v", want, q, read)
	}
}

func writesQueryNot(t *testing.T, what string, q api.Query, fault api.Errno) {
	t.Helper()
	if err := tree.Check(q); err != fault {
		t.Errorf("P6.1: %s: Check = %d, want %d", what, err, fault)
	}
	if got, err := tree.Print(q); got != "" || err != fault {
		t.Errorf("P6.2: %s: Print = %.80q, %d, want %d", what, got, err, fault)
	}
}

func TestPrint(t *testing.T) {
	writesQuery(t, plain(), "PATTERN SEQ(T a) WITHIN 0 RETURN (n = 1)")
	writesQuery(t, with(func(q *api.Query) { q.Strategy = api.Strict }), "PATTERN SEQ(T a) WHERE strict WITHIN 0 RETURN (n = 1)")
	writesQuery(t, with(func(q *api.Query) { q.Strategy = api.Next }), "PATTERN SEQ(T a) WHERE next WITHIN 0 RETURN (n = 1)")
	writesQuery(t, with(func(q *api.Query) { q.Equiv = []string{"time"} }), "PATTERN SEQ(T a) WHERE any { [time] } WITHIN 0 RETURN (n = 1)")
	writesQuery(t, with(func(q *api.Query) { q.Where = []api.Expr{bin(api.OOr, truth(true), ax()), truth(false)} }), "PATTERN SEQ(T a) WHERE any { TRUE OR a.x, FALSE } WITHIN 0 RETURN (n = 1)")
	writesQuery(t, with(func(q *api.Query) { q.Part, q.Equiv, q.Where = "", []string{}, []api.Expr{} }), "PATTERN SEQ(T a) WITHIN 0 RETURN (n = 1)")
	writesQuery(t, with(func(q *api.Query) { q.Within = api.MaxTime }), "PATTERN SEQ(T a) WITHIN 4611686018427387904 RETURN (n = 1)")
	writesQuery(t, with(func(q *api.Query) { q.Part = "time" }), "PATTERN SEQ(T a) PARTITION BY time WITHIN 0 RETURN (n = 1)")
	writesQuery(t, with(func(q *api.Query) { q.Out = "T" }), "PATTERN SEQ(T a) WITHIN 0 RETURN T(n = 1)")
	writesQuery(t, api.Query{
		Comps:    []api.Comp{{Type: "T", Var: "a"}, {Neg: true, Type: "U", Var: "n"}, {Plus: true, Type: "T", Var: "b"}},
		Part:     "k",
		Strategy: api.Next,
		Equiv:    []string{"s", "t"},
		Where:    []api.Expr{bin(api.OGt, ref("b", api.AtCur, "x"), ax())},
		Within:   10,
		Out:      "Up",
		Items:    []api.Item{{Name: "by", Expr: ref("b", api.AtLast, "x")}},
	}, "PATTERN SEQ(T a, !(U n), T+ b[]) PARTITION BY k WHERE next { [s], [t], b[i].x > a.x } WITHIN 10 RETURN Up(by = b[last].x)")
}

// TestPrintLooksAtTheFormAlone writes what only check refuses: too many parts, names that do not fit, kinds that do not.
func TestPrintLooksAtTheFormAlone(t *testing.T) {
	writesQuery(t, with(func(q *api.Query) {
		q.Comps = slices.Repeat([]api.Comp{{Neg: true, Type: "T", Var: "T"}}, 20)
		q.Equiv = slices.Repeat([]string{"time"}, 40)
		q.Where = ones(40)
		q.Items = slices.Repeat(q.Items, 40)
	}), "PATTERN SEQ("+strings.Repeat("!(T T), ", 19)+"!(T T)) WHERE any { "+strings.Repeat("[time], ", 40)+strings.Repeat("1, ", 39)+"1 } WITHIN 0 RETURN ("+strings.Repeat("n = 1, ", 39)+"n = 1)")
	writesQuery(t, with(func(q *api.Query) {
		q.Where = []api.Expr{bin(api.OAdd, truth(true), text("s")), call(api.FCount, "nobody", api.AtBefore, "")}
		q.Items[0].Expr = ref("a", api.AtPrev, "x")
	}), `PATTERN SEQ(T a) WHERE any { TRUE + "s", count(nobody[..i-1]) } WITHIN 0 RETURN (n = a[i-1].x)`)
}

// wrong is a way to spoil a query, and in which row of the chapter's list it stands.
type wrong struct {
	what  string
	row   int
	fault api.Errno
	spoil func(q *api.Query)
}

// wrongs are such ways. What one does, the others leave.
func wrongs() []wrong {
	var l []wrong
	add := func(what string, row int, fault api.Errno, spoil func(q *api.Query)) {
		l = append(l, wrong{what, row, fault, spoil})
	}
	where := func(e api.Expr) func(*api.Query) { return func(q *api.Query) { q.Where = append(q.Where, e) } }
	item := func(name string, e api.Expr) func(*api.Query) {
		return func(q *api.Query) { q.Items = append(q.Items, api.Item{Name: name, Expr: e}) }
	}
	comp := func(c api.Comp) func(*api.Query) { return func(q *api.Query) { q.Comps = append(q.Comps, c) } }
	add("no component", 1, api.ErrTree, func(q *api.Query) { q.Comps = nil })
	add("Neg and Plus", 1, api.ErrTree, comp(api.Comp{Neg: true, Plus: true, Type: "T", Var: "a"}))
	add("no strategy", 2, api.ErrTree, func(q *api.Query) { q.Strategy = 0 })
	for _, s := range append(noNames(), "") {
		add("a component's type", 1, api.ErrTree, comp(api.Comp{Type: s, Var: "a"}))
		add("a component's variable", 1, api.ErrTree, comp(api.Comp{Neg: true, Type: "T", Var: s}))
		add("an equivalence", 2, api.ErrTree, func(q *api.Query) { q.Equiv = append(q.Equiv, s) })
		add("an item's name", 5, api.ErrTree, item(s, number(1)))
		add("a name of an item with another fault", 5, api.ErrTree, item(s, under(32, number(1))))
	}
	for _, s := range noNames() {
		add("the partition", 2, api.ErrTree, func(q *api.Query) { q.Part = s })
		add("the output", 4, api.ErrTree, func(q *api.Query) { q.Out = s })
	}
	for _, n := range []int{math.MinInt64, -1, 4, 5, 1<<32 + 1, math.MaxInt64} {
		add("a strategy that is none", 2, api.ErrTree, func(q *api.Query) { q.Strategy = n })
	}
	for _, n := range []int64{math.MinInt64, -1, 1<<62 + 1, math.MaxInt64} {
		add("the span", 4, api.ErrTree, func(q *api.Query) { q.Within = n })
	}
	for row, expr := range map[int]func(e api.Expr) func(*api.Query){3: where, 5: func(e api.Expr) func(*api.Query) { return item("n", e) }} {
		add("a deep expression", row, api.ErrDeep, expr(under(32, number(1))))
		add("a very deep one", row, api.ErrDeep, expr(wide(60)))
		add("a long one", row, api.ErrLong, expr(wide(9)))
		add("one of no form", row, api.ErrTree, expr(number(-1)))
	}
	add("no item", 5, api.ErrTree, func(q *api.Query) { q.Items = nil })
	add("a long text", 6, api.ErrLong, func(q *api.Query) { q.Equiv = append(q.Equiv, slices.Repeat([]string{"abcdefgh"}, 400)...) })
	return l
}

func TestCheckTellsTheFirstFault(t *testing.T) {
	all := wrongs()
	for _, first := range all {
		writesQueryNot(t, first.what, with(first.spoil), first.fault)
		for _, later := range all {
			if first.row < later.row {
				writesQueryNot(t, first.what+", and "+later.what, with(later.spoil, first.spoil), first.fault)
			}
		}
	}
}

func TestCheckGoesThroughListsInOrder(t *testing.T) {
	deep, long, none := under(32, number(1)), wide(9), number(-1)
	for _, c := range []struct {
		l     []api.Expr
		fault api.Errno
	}{
		{[]api.Expr{deep, long, none}, api.ErrDeep}, {[]api.Expr{long, deep, none}, api.ErrLong}, {[]api.Expr{none, deep, long}, api.ErrTree},
		{[]api.Expr{number(1), ax(), long, deep}, api.ErrLong}, {[]api.Expr{ax(), truth(true), deep, none}, api.ErrDeep}, {append(ones(5000), none), api.ErrTree}, {append(ones(5000), deep), api.ErrDeep},
	} {
		writesQueryNot(t, "conditions", with(func(q *api.Query) { q.Where = c.l }), c.fault)
		writesQueryNot(t, "items", with(func(q *api.Query) {
			q.Items = nil
			for _, e := range c.l {
				q.Items = append(q.Items, api.Item{Name: "n", Expr: e})
			}
		}), c.fault)
	}
	// An item's expression counts ahead of the next one's name.
	writesQueryNot(t, "items", with(func(q *api.Query) { q.Items = []api.Item{{Name: "n", Expr: deep}, {Name: "", Expr: ax()}} }), api.ErrDeep)
	writesQueryNot(t, "items", with(func(q *api.Query) {
		q.Items = []api.Item{{Name: "n", Expr: ax()}, {Name: "", Expr: ax()}, {Name: "n", Expr: deep}}
	}), api.ErrTree)
}

func TestCheckAsksEveryFormOfExpressions(t *testing.T) {
	for _, e := range noForms() {
		writesQueryNot(t, shown(e), with(func(q *api.Query) { q.Where = []api.Expr{truth(true), e} }), api.ErrTree)
		writesQueryNot(t, shown(e), with(func(q *api.Query) { q.Items[0].Expr = un(api.ONeg, e) }), api.ErrTree)
	}
}

func TestTextsOfQueriesHaveABound(t *testing.T) {
	of := func(n int) func(q *api.Query) {
		return func(q *api.Query) { q.Items[0].Expr = strung(append(slices.Repeat([]int{256}, 15), n)...) }
	}
	last := 4096 - len(modelQuery(with(of(0))))
	q := with(of(last))
	if len(modelQuery(q)) != 4096 {
		t.Fatalf("a text of %d bytes", len(modelQuery(q)))
	}
	writesQuery(t, q, modelQuery(q))
	writesQueryNot(t, "a byte more", with(of(last+1)), api.ErrLong)
	writesQueryNot(t, "a longer name", with(of(last), func(q *api.Query) { q.Items[0].Name = "nn" }), api.ErrLong)
	writesQueryNot(t, "a longer span", with(of(last), func(q *api.Query) { q.Within = 10 }), api.ErrLong)
	writesQueryNot(t, "an output", with(of(last), func(q *api.Query) { q.Out = "T" }), api.ErrLong)
	// Lists of any length have texts that are told to be too long.
	for _, more := range []func(q *api.Query){
		func(q *api.Query) { q.Comps = slices.Repeat(q.Comps, 200_000) },
		func(q *api.Query) { q.Equiv = slices.Repeat([]string{"s"}, 200_000) },
		func(q *api.Query) { q.Where = ones(200_000) },
		func(q *api.Query) { q.Items = slices.Repeat(q.Items, 200_000) },
		func(q *api.Query) { q.Where = slices.Repeat([]api.Expr{wide(8)}, 1000) },
	} {
		writesQueryNot(t, "a long list", with(more), api.ErrLong)
	}
}
