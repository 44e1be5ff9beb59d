package tree_test

import (
	"testing"

	"refrain/api"
	"refrain/tree"
)

// grown gives these expressions, and all operations on them.
func grown(kids []api.Expr) []api.Expr {
	all := append([]api.Expr{}, kids...)
	for _, x := range kids {
		all = append(all, un(api.ONeg, x), un(api.ONot, x))
		for _, y := range kids {
			for op := api.OAdd; op <= api.OOr; op++ {
				all = append(all, bin(op, x, y))
			}
		}
	}
	return all
}

// texts sees to it that the texts of different things are different ones.
type texts[T any] struct {
	of   map[string]T
	same func(a, b T) bool
}

func (l *texts[T]) add(t *testing.T, text string, thing T) {
	if old, ok := l.of[text]; ok && !l.same(old, thing) {
		t.Errorf("P6.4: %q is the text of %+v and of %+v", text, old, thing)
	}
	l.of[text] = thing
}

// TestAllSmallExpressions holds their texts against the model's, reads them, and sees that no two are the same.
func TestAllSmallExpressions(t *testing.T) {
	all := texts[api.Expr]{map[string]api.Expr{}, tree.Equal}
	hold := func(e api.Expr) {
		t.Helper()
		if t.Failed() { // one is enough to tell
			return
		}
		want := modelText(e, 1)
		writes(t, e, want)
		all.add(t, want, e)
	}
	for _, e := range grown(grown([]api.Expr{number(1), ax()})) {
		hold(e)
	}
	leaves := []api.Expr{number(0), number(10), text(""), text("1"), text("TRUE"), text("a.x"), text("-"), truth(true), truth(false)}
	for at := api.AtOne; at <= api.AtLast; at++ {
		for _, v := range []string{"a", "i", "count", "sum"} {
			leaves = append(leaves, ref(v, at, "x"), ref(v, at, "i"), ref("x", at, v))
		}
	}
	for _, at := range []int{api.AtAll, api.AtBefore} {
		for _, v := range []string{"a", "i", "count", "sum"} {
			leaves = append(leaves, call(api.FCount, v, at, ""), call(api.FSum, v, at, "x"), call(api.FMin, v, at, "x"), call(api.FMax, "x", at, v))
		}
	}
	for _, e := range grown(leaves) {
		hold(e)
	}
	if !t.Failed() && len(all.of) < 90_000 {
		t.Errorf("only %d expressions were tried", len(all.of))
	}
}

// vary gives each query with each of the values.
func vary[T any](queries []api.Query, set func(q *api.Query, v T), values ...T) []api.Query {
	var all []api.Query
	for _, q := range queries {
		for _, v := range values {
			set(&q, v)
			all = append(all, q)
		}
	}
	return all
}

// TestAllSmallQueries does so with queries.
func TestAllSmallQueries(t *testing.T) {
	single, many, negated := api.Comp{Type: "T", Var: "a"}, api.Comp{Plus: true, Type: "T", Var: "b"}, api.Comp{Neg: true, Type: "any", Var: "i"}
	n, m := api.Item{Name: "n", Expr: ax()}, api.Item{Name: "any", Expr: un(api.ONeg, number(1))}
	l := vary([]api.Query{{}}, func(q *api.Query, v []api.Comp) { q.Comps = v }, []api.Comp{single}, []api.Comp{many}, []api.Comp{negated}, []api.Comp{single, many}, []api.Comp{many, single}, []api.Comp{single, negated, single}, []api.Comp{negated, negated})
	l = vary(l, func(q *api.Query, v string) { q.Part = v }, "", "k", "any")
	l = vary(l, func(q *api.Query, v int) { q.Strategy = v }, api.Any, api.Next, api.Strict)
	l = vary(l, func(q *api.Query, v []string) { q.Equiv = v }, nil, []string{"s"}, []string{"s", "any"}, []string{"s", "s"})
	l = vary(l, func(q *api.Query, v []api.Expr) { q.Where = v }, []api.Expr{}, []api.Expr{truth(true)}, []api.Expr{bin(api.OOr, ax(), ax()), truth(true)}, []api.Expr{truth(true), ref("s", api.AtCur, "x")})
	l = vary(l, func(q *api.Query, v int64) { q.Within = v }, 0, 10, api.MaxTime)
	l = vary(l, func(q *api.Query, v string) { q.Out = v }, "", "Out", "any")
	l = vary(l, func(q *api.Query, v []api.Item) { q.Items = v }, []api.Item{n}, []api.Item{m}, []api.Item{n, m}, []api.Item{m, n}, []api.Item{n, n, n})
	all := texts[api.Query]{map[string]api.Query{}, sameQuery}
	for _, q := range l {
		if t.Failed() {
			return
		}
		writesQuery(t, q, modelQuery(q))
		all.add(t, modelQuery(q), q)
	}
	if len(all.of) != 7*3*3*4*4*3*3*5 {
		t.Errorf("%d texts", len(all.of))
	}
}
