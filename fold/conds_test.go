package fold_test

import (
	"slices"
	"strconv"
	"strings"
	"testing"

	"refrain/api"
	"refrain/fold"
	"refrain/tree"
)

// keeps holds Conds against what it is to answer.
func keeps(t *testing.T, l []api.Expr, want ...api.Expr) {
	t.Helper()
	if got := fold.Conds(l); !slices.EqualFunc(got, want, same) {
		t.Errorf("P9.5: Conds(%s) = [%s], want [%s]", allShown(l), allShown(got), allShown(want))
	}
}

func allShown(l []api.Expr) string {
	var texts []string
	for _, e := range l[:min(len(l), 20)] {
		texts = append(texts, shown(e))
	}
	return strings.Join(texts, "; ")
}

// TestConds goes by texts: conditions, with semicolons between them, and what is left.
func TestConds(t *testing.T) {
	for _, c := range [][2]string{
		{`a.x > 1 AND (a.y > 2 AND TRUE); 1 = 1; a.x > 1`, `a.x > 1; a.y > 2`},
		{`a.x > 1; 1 = 2; b.x > 1`, `FALSE`},
		{`a.x = a.x`, ``},
		{``, ``},
		{`a.ok`, `a.ok`},
		// Folded.
		{`1 < a.x; NOT a.ok = FALSE; 2 + 3 = b.x - 1`, `a.x > 1; a.ok; b.x = 6`},
		{`a.x + 1; 3; -7; "s"; a.x`, `a.x + 1; 3; -7; "s"; a.x`},
		// Both sides of an AND, in order, wherever it leans.
		{`a.ok AND b.ok`, `a.ok; b.ok`},
		{`d.ok; (a.ok AND b.ok) AND (c.ok AND e.ok); f.ok`, `d.ok; a.ok; b.ok; c.ok; e.ok; f.ok`},
		{`a.ok AND (b.ok AND (c.ok AND (d.ok AND e.ok)))`, `a.ok; b.ok; c.ok; d.ok; e.ok`},
		{`a.ok AND (b.ok OR c.ok AND d.ok)`, `a.ok; b.ok OR c.ok AND d.ok`},
		{`NOT (a.ok AND b.ok)`, `NOT (a.ok AND b.ok)`},
		{`NOT NOT (a.ok AND b.ok)`, `a.ok; b.ok`},
		{`(a.ok AND b.ok) = TRUE`, `a.ok; b.ok`},
		{`(a.ok AND b.ok) = c.ok`, `(a.ok AND b.ok) = c.ok`},
		{`1 AND a.ok`, `1; a.ok`},
		// TRUE goes.
		{`TRUE`, ``},
		{`TRUE; TRUE AND TRUE; a.ok; a.ok OR TRUE; a.x <= a.x`, `a.ok`},
		// FALSE is all, wherever it stands and whatever stands beside it.
		{`FALSE`, `FALSE`},
		{`FALSE; a.ok; FALSE`, `FALSE`},
		{`a.ok; b.ok; TRUE; a.x != a.x`, `FALSE`},
		{`a.ok; b.ok AND (c.ok AND 1 > 2)`, `FALSE`},
		{`a.ok; NOT a.ok`, `a.ok; NOT a.ok`},
		// Of those that are the same the first one stays.
		{`a.ok; b.ok; a.ok; b.ok; c.ok`, `a.ok; b.ok; c.ok`},
		{`b.ok; a.ok AND b.ok; a.ok`, `b.ok; a.ok`},
		{`1 < a.x; a.x > 1; a.x + 1 > 2; NOT a.x <= 1`, `a.x > 1; a.x + 1 > 2`},
		{`a.x = b.x; b.x = a.x`, `a.x = b.x; b.x = a.x`},
		{`b[i].ok; b[i-1].ok; b[i].ok; b[first].ok`, `b[i].ok; b[i-1].ok; b[first].ok`},
		{`count(b); count(a); count(b[..i-1]); count(b)`, `count(b); count(a); count(b[..i-1])`},
		{`1; "1"; 1; "1"`, `1; "1"`},
	} {
		keeps(t, exprs(c[0]), exprs(c[1])...)
	}
	keeps(t, nil)
	keeps(t, []api.Expr{})
}

// TestCondsWithFaults asks for expressions that have a fault: they are no sides, no literals, and the same only if all of them is.
func TestCondsWithFaults(t *testing.T) {
	for _, e := range faulty() {
		keeps(t, []api.Expr{e}, e)
		keeps(t, []api.Expr{e, expr("a.ok AND b.ok"), e, expr("1 = 1"), expr("b.ok"), e}, e, expr("a.ok"), expr("b.ok"))
		keeps(t, []api.Expr{e, expr("a.ok AND b.ok"), e, expr("1 = 2")}, truth(false))
	}
	all := faulty()
	keeps(t, slices.Concat(all, all), distinct(all)...)
	other := truth(false)
	other.At = api.AtOne
	keeps(t, []api.Expr{other, bin(api.OAnd, other, truth(false)), truth(true), other}, other, bin(api.OAnd, other, truth(false)))
	wide := bin(api.OAnd, truth(false), truth(false), truth(false))
	keeps(t, []api.Expr{wide, un(api.OAnd, truth(false)), truth(true), wide}, wide, un(api.OAnd, truth(false)))
	yes := truth(true)
	yes.Kids = []api.Expr{truth(true)}
	keeps(t, []api.Expr{yes, yes, truth(true)}, yes)
}

// distinct gives the first one of each of those that are the same.
func distinct(l []api.Expr) []api.Expr {
	var first []api.Expr
	for _, e := range l {
		if !slices.ContainsFunc(first, func(other api.Expr) bool { return same(other, e) }) {
			first = append(first, e)
		}
	}
	return first
}

// TestManyConds asks for long lists.
func TestManyConds(t *testing.T) {
	var l, faults []api.Expr
	for i := range 20_000 {
		l = append(l, expr("a.x > "+strconv.Itoa(i)))
		faults = append(faults, number(-1))
	}
	keeps(t, slices.Concat(l, l), l...)
	keeps(t, faults, number(-1))
	keeps(t, append(slices.Clone(l), truth(false)), truth(false))
	keeps(t, slices.Repeat([]api.Expr{truth(true)}, 20_000))
	all := chained(32, api.OAnd, true, expr("a.ok"))
	keeps(t, slices.Repeat([]api.Expr{all}, 1_000), expr("a.ok"))
	// Two that have no text, for its length, are the same or not as others are.
	long := text(strings.Repeat("\x00", 256))
	one, other := doubled(7, api.OAdd, long), bin(api.OSub, doubled(7, api.OAdd, long), expr("a.x"))
	keeps(t, []api.Expr{one, other, one, other}, one, other)
	// Of many sides, which of them are the same is seen.
	sides := expr("c0.ok")
	var want []api.Expr
	for i := range 31 {
		sides = bin(api.OAnd, sides, expr("c"+strconv.Itoa(i%20)+".ok"))
	}
	for i := range 20 {
		want = append(want, expr("c"+strconv.Itoa(i)+".ok"))
	}
	keeps(t, []api.Expr{sides}, want...)
	deep := under(1_000_000, api.ONot, truth(true))
	if got := fold.Conds([]api.Expr{deep, truth(true), deep}); len(got) != 1 || !tree.Equal(got[0], deep) {
		t.Errorf("P9.5: of an expression of many levels there are %d", len(got))
	}
}

// conds gives what Conds is to answer.
func (m *model) conds(l []api.Expr) []api.Expr {
	var all []api.Expr
	for _, e := range l {
		all = append(all, m.fold(e))
	}
	for at := 0; at < len(all); {
		if all[at].Kind == api.EBin && all[at].Op == api.OAnd {
			all = slices.Replace(all, at, at+1, all[at].Kids...)
		} else {
			at++
		}
	}
	if slices.ContainsFunc(all, func(e api.Expr) bool { return same(e, truth(false)) }) {
		return []api.Expr{truth(false)}
	}
	return distinct(slices.DeleteFunc(all, func(e api.Expr) bool { return same(e, truth(true)) }))
}

// TestGrownConds holds Conds against the model, and what is left against what was asked.
func TestGrownConds(t *testing.T) {
	h := newHolder(t)
	held, failed := 0, 0
	for range 20_000 {
		var l []api.Expr
		for range h.IntN(5) {
			e := h.sound(api.KBool, 1+h.IntN(5))
			for h.IntN(3) == 0 {
				e = bin(api.OAnd, h.sound(api.KBool, 1+h.IntN(3)), e)
			}
			l = append(l, e)
		}
		keeps(t, l, h.conds(l)...)
		env := h.env()
		want, sound := holdOver(l, env)
		if !sound {
			continue
		}
		if got, sound := holdOver(fold.Conds(l), env); got != want || !sound {
			t.Errorf("P9.6: all of [%s] hold: %v; of [%s]: %v", allShown(l), want, allShown(fold.Conds(l)), got)
		}
		if want {
			held++
		} else {
			failed++
		}
		if t.Failed() { // one is enough to tell
			return
		}
	}
	if held < 2_000 || failed < 2_000 {
		t.Errorf("only %d times all held, and %d times not", held, failed)
	}
}

// holdOver tells whether all conditions are true over an env, and whether all are truth values.
func holdOver(l []api.Expr, env func(text string) api.Value) (all, sound bool) {
	all = true
	for _, e := range l {
		v, ok := worth(e, env)
		if !ok || v.Kind != api.KBool {
			return false, false
		}
		all = all && v.Bool
	}
	return all, true
}
