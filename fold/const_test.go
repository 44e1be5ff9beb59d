package fold_test

import (
	"math"
	"slices"
	"strings"
	"testing"

	"refrain/api"
	"refrain/fold"
)

// is holds Const against a value; isNone, of what is no constant.
func is(t *testing.T, e api.Expr, want api.Expr) {
	t.Helper()
	if v, ok := fold.Const(e); v != want.Val || !ok {
		t.Errorf("P9.4: Const(%s) = %v, %v, want %v", shown(e), v, ok, want.Val)
	}
}

func isNone(t *testing.T, e api.Expr) {
	t.Helper()
	if v, ok := fold.Const(e); v != (api.Value{}) || ok {
		t.Errorf("P9.4: Const(%s) = %v, %v", shown(e), v, ok)
	}
}

func TestConst(t *testing.T) {
	is(t, expr("2 + 3"), number(5))
	is(t, expr("2 - 3 * 4"), number(-10))
	is(t, expr("-9223372036854775807 - 1"), number(math.MinInt64))
	is(t, expr("-(-9223372036854775807 - 1)"), number(math.MinInt64))
	is(t, expr("9223372036854775807 + 9223372036854775807"), number(-2))
	is(t, expr(`"b"`), text("b"))
	is(t, expr(`"a" < "b" AND NOT "a" = "b"`), truth(true))
	is(t, expr("TRUE = FALSE OR 1 >= 2"), truth(false))
	for _, e := range exprs(`a.x; a.x - a.x; 0 * a.x; FALSE AND a.ok; count(b); -count(b); a.x = a.x; 1 + TRUE; -TRUE; NOT 1; "a" + "b"; 1 = TRUE; TRUE < FALSE; TRUE OR 1; (1 + TRUE) = 2; 1 + 2 = -"s"; 1 + (2 + a.x); a.x + 1 + 2`) {
		isNone(t, e)
	}
}

// TestConstOfAnyTree asks for trees that have a fault.
func TestConstOfAnyTree(t *testing.T) {
	one, two := number(1), number(2)
	is(t, number(-3), number(-3))
	is(t, bin(api.OMul, number(-3), number(math.MinInt64)), number(math.MinInt64))
	// Fields of which the kind does not speak.
	is(t, api.Expr{Kind: api.ELit, Op: 77, Val: one.Val, Var: "AND", At: -5, Attr: "x", Kids: exprs("a.x; a.x; a.x")}, one)
	is(t, api.Expr{Kind: api.EUn, Op: api.ONeg, Val: api.Value{Kind: 77}, Var: "AND", At: 9, Attr: "-", Kids: []api.Expr{one}}, number(-1))
	is(t, api.Expr{Kind: api.EBin, Op: api.OLe, Val: one.Val, Var: "a", At: 1, Attr: "x", Kids: []api.Expr{one, two}}, truth(true))
	for _, e := range []api.Expr{
		{}, {Kind: 6, Val: one.Val}, {Kind: -1, Val: one.Val}, {Kind: api.ERef, Val: one.Val}, {Kind: api.EAgg, Op: api.FCount, Val: one.Val},
		{Kind: api.EUn, Op: api.ONeg, Val: one.Val}, {Kind: api.EBin, Op: api.OAdd, Val: one.Val},
		literal(api.Value{}), literal(api.Value{Kind: 4}), literal(api.Value{Kind: api.KInt, Str: "s"}), literal(api.Value{Kind: api.KBool, Int: 1}), text(strings.Repeat("s", 257)),
		un(api.ONeg), un(api.ONeg, one, two), un(api.OAdd, one), un(api.OAnd, truth(true)), un(0, one), un(-1, one), un(math.MaxInt64, one), un(math.MinInt64, one),
		bin(api.OAdd), bin(api.OAdd, one), bin(api.OAdd, one, two, one), bin(api.ONeg, one, two), bin(api.ONot, truth(true), truth(true)), bin(14, one, two), bin(math.MinInt64, one, two),
		bin(api.OAdd, one, literal(api.Value{})), bin(api.OAdd, literal(api.Value{}), one), bin(api.OAdd, one, api.Expr{}), un(api.ONot, api.Expr{}),
	} {
		isNone(t, e)
	}
	is(t, text(strings.Repeat("\xff", 256)), text(strings.Repeat("\xff", 256)))
}

// TestConstOfGreatTrees asks for trees that are too great to be folded.
func TestConstOfGreatTrees(t *testing.T) {
	is(t, under(300_001, api.ONot, truth(true)), truth(false))
	is(t, under(400_000, api.ONeg, number(3)), number(3))
	isNone(t, under(300_000, api.ONeg, truth(true)))
	isNone(t, under(300_000, api.ONeg, expr("a.x")))
	is(t, chained(300_000, api.OAdd, true, number(3)), number(900_000))
	is(t, chained(300_000, api.OSub, true, number(3)), number(3-3*299_999))
	is(t, chained(300_000, api.OSub, false, number(3)), number(0))
	is(t, doubled(16, api.OAdd, number(1)), number(1<<15))
	is(t, doubled(16, api.OOr, truth(false)), truth(false))
	isNone(t, bin(api.OAdd, slices.Repeat([]api.Expr{number(1)}, 100_000)...))
}
