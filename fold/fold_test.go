package fold_test

import (
	"slices"
	"strings"
	"testing"

	"refrain/api"
	"refrain/fold"
	"refrain/parse"
	"refrain/tree"
)

func literal(v api.Value) api.Expr { return api.Expr{Kind: api.ELit, Val: v} }

func number(n int64) api.Expr { return literal(api.Value{Kind: api.KInt, Int: n}) }

func text(s string) api.Expr { return literal(api.Value{Kind: api.KStr, Str: s}) }

func truth(b bool) api.Expr { return literal(api.Value{Kind: api.KBool, Bool: b}) }

func un(op int, kids ...api.Expr) api.Expr { return api.Expr{Kind: api.EUn, Op: op, Kids: kids} }

func bin(op int, kids ...api.Expr) api.Expr { return api.Expr{Kind: api.EBin, Op: op, Kids: kids} }

// expr reads an expression from its text.
func expr(s string) api.Expr {
	e, _, err := parse.Expr(s)
	if err != api.OK {
		panic(s)
	}
	return e
}

// exprs reads expressions, with semicolons between them.
func exprs(s string) []api.Expr {
	var l []api.Expr
	for _, one := range strings.Split(s, ";") {
		if one = strings.TrimSpace(one); one != "" {
			l = append(l, expr(one))
		}
	}
	return l
}

// shown gives an expression's text, or its own fields: it may be without end.
func shown(e api.Expr) string {
	if s, err := tree.PrintExpr(e); err == api.OK {
		return s
	}
	e.Kids = slices.Repeat([]api.Expr{{}}, min(len(e.Kids), 3))
	return strings.ReplaceAll(printed(e), "\n", " ")
}

// under gives an expression under some operations on one.
func under(times, op int, e api.Expr) api.Expr {
	for range times {
		e = un(op, e)
	}
	return e
}

// doubled gives 2^levels - 1 nodes over expressions of one.
func doubled(levels, op int, e api.Expr) api.Expr {
	for range levels - 1 {
		e = bin(op, e, e)
	}
	return e
}

// chained gives a chain of an operation, from the left or from the right, of so many sides.
func chained(sides, op int, fromLeft bool, e api.Expr) api.Expr {
	all := e
	for range sides - 1 {
		if fromLeft {
			all = bin(op, all, e)
		} else {
			all = bin(op, e, all)
		}
	}
	return all
}

// becomes holds Fold against what it is to answer.
func becomes(t *testing.T, e, want api.Expr) {
	t.Helper()
	if got := fold.Fold(e); !same(got, want) {
		t.Errorf("P9.1: Fold(%s) = %s, want %s", shown(e), shown(got), shown(want))
	}
}

// folds does so by texts: "e -> what it becomes", lines of them.
func folds(t *testing.T, lines string) {
	t.Helper()
	for _, line := range strings.Split(strings.TrimSpace(lines), "\n") {
		e, want, _ := strings.Cut(line, "->")
		becomes(t, expr(e), expr(want))
	}
}

func TestExamples(t *testing.T) {
	folds(t, `
		2 + 3 * 4 -> 14
		a.x + 0 * a.y -> a.x
		9223372036854775807 + 1 -> 9223372036854775807 + 1
		1 + 9223372036854775807 -> 9223372036854775807 + 1
		3 - 5 -> -2
		- - -3 -> -3
		a.x - 2 - 3 + 1 -> a.x - 4
		5 + a.x + 6 -> a.x + 11
		a.x + 1 - 1 -> a.x
		a.x + 9223372036854775807 + 1 -> a.x + (9223372036854775807 + 1)
		3 < a.x -> a.x > 3
		NOT (a.x < 3 OR FALSE) -> a.x >= 3
		(a.x > 1) = FALSE -> a.x <= 1
		NOT (a.ok = FALSE) -> a.ok
		a.x = a.x AND a.y > 2 -> a.y > 2
		a.x + 3 = 5 -> a.x = 2
		a.x - 3 != 5 -> a.x != 8
		a.x * 2 * 3 -> a.x * 6
		0 - a.x + 4 -> 4 - a.x
		a.x - -3 -> a.x + 3
		-(a.x - a.y) -> a.y - a.x
		"a" < "b" -> TRUE
		1 + TRUE -> 1 + TRUE
		1 = TRUE -> 1`)
}

// TestConstants asks for what is worked out, and how it is written (rule 1).
func TestConstants(t *testing.T) {
	folds(t, `
		0 -> 0
		-0 -> 0
		-7 -> -7
		- -7 -> 7
		0 - 9223372036854775807 -> -9223372036854775807
		-9223372036854775807 - 1 -> 9223372036854775807 + 1
		-9223372036854775807 + -1 -> 9223372036854775807 + 1
		-(9223372036854775807 + 1) -> 9223372036854775807 + 1
		9223372036854775807 + 2 -> -9223372036854775807
		9223372036854775807 + 1 - 1 -> 9223372036854775807
		4611686018427387904 * 2 -> 9223372036854775807 + 1
		4294967296 * 4294967296 -> 0
		1 - 1 -> 0
		"s" -> "s"
		"" = "" -> TRUE
		"a" >= "b" -> FALSE
		NOT TRUE -> FALSE
		NOT (TRUE AND FALSE) OR FALSE -> TRUE
		TRUE != FALSE -> TRUE
		3 <= 3 -> TRUE
		(1 < 2) = ("a" > "b") -> FALSE
		a.x -> a.x
		b[i-1].x -> b[i-1].x
		sum(b[..i-1].x) -> sum(b[..i-1].x)
		count(b) -> count(b)
		min(b.x) + (2 - 5) * 2 -> min(b.x) - 6`)
	// A function's Op is no operation's: FCount is ONeg, FSum is ONot, FMin is OAdd, FMax is OSub.
	folds(t, `
		-count(b) -> -count(b)
		NOT sum(b.ok) -> NOT sum(b.ok)
		min(b.x) + 0 -> min(b.x)
		max(b.x) - max(b.x) -> 0
		-max(b.x) -> -max(b.x)
		a.x - count(b) -> a.x - count(b)
		count(b) + 1 + min(b.x) + 1 -> count(b) + 1 + min(b.x) + 1`)
}

func TestRule2Twice(t *testing.T) {
	folds(t, `
		NOT NOT a.ok -> a.ok
		NOT NOT NOT a.ok -> NOT a.ok
		- -a.x -> a.x
		- - -a.x -> -a.x
		-(a.x - a.y) -> a.y - a.x
		-(a.x - 3) -> 3 - a.x
		-(3 - a.x) -> a.x - 3
		-(a.x + a.y) -> -(a.x + a.y)
		-(a.x * a.y) -> -(a.x * a.y)
		NOT -a.x -> NOT -a.x
		-(NOT a.ok) -> -(NOT a.ok)
		- -TRUE -> TRUE
		NOT NOT 3 -> 3`)
}

func TestRule3TurnedRelations(t *testing.T) {
	folds(t, `
		NOT a.x = a.y -> a.x != a.y
		NOT a.x != a.y -> a.x = a.y
		NOT a.x < a.y -> a.x >= a.y
		NOT a.x >= a.y -> a.x < a.y
		NOT a.x > a.y -> a.x <= a.y
		NOT a.x <= a.y -> a.x > a.y
		NOT (a.ok AND b.ok) -> NOT (a.ok AND b.ok)
		NOT (a.ok OR b.ok) -> NOT (a.ok OR b.ok)
		NOT 3 < a.x -> a.x <= 3
		NOT 1 < TRUE -> 1 >= TRUE`)
}

func TestRule4AndOr(t *testing.T) {
	folds(t, `
		TRUE AND a.ok -> a.ok
		a.ok AND TRUE -> a.ok
		FALSE AND a.ok -> FALSE
		a.ok AND FALSE -> FALSE
		FALSE OR a.ok -> a.ok
		a.ok OR FALSE -> a.ok
		TRUE OR a.ok -> TRUE
		a.ok OR TRUE -> TRUE
		a.ok AND a.ok -> a.ok
		a.ok OR a.ok -> a.ok
		a.x < 3 AND 3 > a.x -> a.x < 3
		a.ok AND b.ok -> a.ok AND b.ok
		a.ok OR NOT a.ok -> a.ok OR NOT a.ok
		TRUE AND 3 -> 3
		3 AND FALSE -> FALSE
		3 OR 3 -> 3
		1 AND a.ok -> 1 AND a.ok
		a.ok AND b.ok AND (a.ok AND b.ok) -> a.ok AND b.ok`)
}

func TestRule5Alike(t *testing.T) {
	folds(t, `
		a.x = a.x -> TRUE
		a.x <= a.x -> TRUE
		a.x >= a.x -> TRUE
		a.x != a.x -> FALSE
		a.x < a.x -> FALSE
		a.x > a.x -> FALSE
		a.x + 1 = 1 + a.x -> TRUE
		a.x < a.y -> a.x < a.y
		b[i].x = b[i-1].x -> b[i].x = b[i-1].x
		min(b.x) >= min(b.x) -> TRUE
		min(b.x) >= max(b.x) -> min(b.x) >= max(b.x)
		TRUE <= TRUE -> TRUE
		FALSE > FALSE -> FALSE`)
}

func TestRule6ConstantsGoBehind(t *testing.T) {
	folds(t, `
		3 + a.x -> a.x + 3
		-3 * a.x -> a.x * -3
		3 - a.x -> 3 - a.x
		3 = a.x -> a.x = 3
		"k" != a.s -> a.s != "k"
		3 < a.x -> a.x > 3
		3 <= a.x -> a.x >= 3
		3 > a.x -> a.x < 3
		3 >= a.x -> a.x <= 3
		TRUE + a.x -> a.x + TRUE
		TRUE AND 1 = a.x -> a.x = 1
		9223372036854775807 + 1 + a.x -> a.x + (9223372036854775807 + 1)
		9223372036854775807 + (1 + a.x) -> a.x + (9223372036854775807 + 1)
		5 + (a.x + a.y) -> a.x + a.y + 5
		1 * TRUE -> 1 * TRUE
		1 < TRUE -> 1 < TRUE`)
}

func TestRule7HeldAgainstTruth(t *testing.T) {
	folds(t, `
		a.ok = TRUE -> a.ok
		a.ok != FALSE -> a.ok
		a.ok = FALSE -> NOT a.ok
		a.ok != TRUE -> NOT a.ok
		TRUE = a.ok -> a.ok
		FALSE != a.ok -> a.ok
		FALSE = a.ok -> NOT a.ok
		TRUE != a.ok -> NOT a.ok
		(NOT a.ok) = FALSE -> a.ok
		(a.x < 3) != TRUE -> a.x >= 3
		a.ok < TRUE -> a.ok < TRUE
		1 != TRUE -> NOT 1
		TRUE = 1 -> TRUE = 1
		a.x = 0 -> a.x = 0`)
}

func TestRule8ZeroAndOne(t *testing.T) {
	folds(t, `
		a.x + 0 -> a.x
		0 + a.x -> a.x
		a.x - 0 -> a.x
		a.x * 1 -> a.x
		1 * a.x -> a.x
		a.x - a.x -> 0
		a.x * 0 -> 0
		0 * a.x -> 0
		0 - a.x -> -a.x
		0 - -a.x -> a.x
		0 - (a.x - a.y) -> a.y - a.x
		a.x * -1 -> -a.x
		-1 * a.x -> -a.x
		-a.x * -1 -> a.x
		(a.x - a.y) * -1 -> a.y - a.x
		a.x + a.x -> a.x + a.x
		TRUE + 0 -> TRUE
		0 + TRUE -> 0 + TRUE
		TRUE - TRUE -> 0
		0 - TRUE -> -TRUE
		a.x + FALSE -> a.x + FALSE`)
}

func TestRule9Sums(t *testing.T) {
	folds(t, `
		a.x + 3 + 4 -> a.x + 7
		a.x - 3 + 5 -> a.x + 2
		a.x - 3 + 3 -> a.x
		a.x - 5 + 3 -> a.x - 2
		a.x + 3 - 4 -> a.x - 1
		a.x + 3 - 3 -> a.x
		a.x + 5 - 3 -> a.x + 2
		a.x - 3 - 4 -> a.x - 7
		a.x + 9223372036854775807 + 2 -> a.x - 9223372036854775807
		a.x - 9223372036854775807 - 1 -> a.x + (9223372036854775807 + 1)
		a.x - 9223372036854775807 - 2 -> a.x + 9223372036854775807
		a.x - (9223372036854775807 + 1) - 1 -> a.x + 9223372036854775807
		a.x + (9223372036854775807 + 1) + (9223372036854775807 + 1) -> a.x
		a.x - (9223372036854775807 + 1) -> a.x - (9223372036854775807 + 1)
		3 - a.x + 4 -> 3 - a.x + 4
		3 + a.x - 4 -> a.x - 1
		a.x + "s" + 3 -> a.x + "s" + 3
		a.x + 3 + "s" -> a.x + 3 + "s"
		TRUE + 1 + 2 -> TRUE + 3
		a.x + (1 + a.y) -> a.x + (a.y + 1)`)
}

func TestRule10Products(t *testing.T) {
	folds(t, `
		a.x * 2 * 3 -> a.x * 6
		2 * a.x * 3 -> a.x * 6
		a.x * 2 * -3 -> a.x * -6
		a.x * 4294967296 * 4294967296 -> 0
		a.x * 4294967296 * 2147483648 -> a.x * (9223372036854775807 + 1)
		a.x * 3 * 6148914691236517205 -> -a.x
		a.x * 3 * -6148914691236517205 -> a.x
		-a.x * 3 * 6148914691236517205 -> a.x
		a.x * TRUE * 3 -> a.x * TRUE * 3
		a.x * 3 * TRUE -> a.x * 3 * TRUE
		a.x * 3 + 3 -> a.x * 3 + 3
		(a.x + 3) * 3 -> (a.x + 3) * 3`)
}

func TestRule11Signs(t *testing.T) {
	folds(t, `
		a.x + -a.y -> a.x - a.y
		a.x - -a.y -> a.x + a.y
		-a.x + a.y -> a.y - a.x
		-a.x - a.y -> -a.x - a.y
		-a.x + -a.y -> -a.x - a.y
		-a.x - -a.y -> a.y - a.x
		-a.x + a.x -> 0
		a.x + -a.x -> 0
		a.x + -3 -> a.x - 3
		a.x - -3 -> a.x + 3
		-3 + a.x -> a.x - 3
		-3 - a.x -> -3 - a.x
		3 - -a.x -> a.x + 3
		-a.x + 3 -> 3 - a.x
		-a.x * 3 -> -a.x * 3
		a.x * -a.y -> a.x * -a.y
		-3 + TRUE -> TRUE - 3
		TRUE + -3 -> TRUE - 3
		a.x + 1 - -a.y -> a.x + 1 + a.y`)
}

func TestRule12SumsInRelations(t *testing.T) {
	folds(t, `
		a.x + 3 = 5 -> a.x = 2
		a.x + 5 != 3 -> a.x != -2
		a.x - 3 = 5 -> a.x = 8
		a.x - 3 != 5 -> a.x != 8
		5 = a.x + 3 -> a.x = 2
		NOT a.x + 3 = 5 -> a.x != 2
		a.x + 1 = 9223372036854775807 + 1 -> a.x = 9223372036854775807
		a.x - 1 = 9223372036854775807 -> a.x = 9223372036854775807 + 1
		a.x + 9223372036854775807 != -1 -> a.x != 9223372036854775807 + 1
		a.x + 3 < 5 -> a.x + 3 < 5
		3 - a.x = 5 -> 3 - a.x = 5
		a.x * 3 = 6 -> a.x * 3 = 6
		a.x + 3 = "s" -> a.x + 3 = "s"
		a.x + "s" = 3 -> a.x + "s" = 3
		a.x + 3 = a.y -> a.x + 3 = a.y
		TRUE + 1 = 2 -> TRUE = 1`)
}

// faulty gives expressions that have a fault, and in which there would be much to fold.
func faulty() []api.Expr {
	sum := expr("1 + 1")
	other := sum
	other.Var = "a"
	all := []api.Expr{
		{}, other, number(-3), un(api.ONeg, number(-3)), bin(api.OAdd, number(1), number(-3)),
		un(api.ONot), un(api.ONot, sum, sum), un(api.OAdd, sum), un(0, sum), un(-1, sum), un(1<<62, sum),
		bin(api.OAdd), bin(api.OAdd, sum), bin(api.OAdd, sum, sum, sum), bin(api.ONeg, sum, sum), bin(api.OOr+1, sum, sum),
		{Kind: 6, Op: api.OAdd, Kids: []api.Expr{sum, sum}}, {Kind: -1, Kids: []api.Expr{sum}},
		{Kind: api.ELit, Val: api.Value{Kind: api.KInt}, Kids: []api.Expr{sum}}, {Kind: api.ELit, Op: api.ONeg, Val: api.Value{Kind: api.KInt}},
		literal(api.Value{Kind: api.KInt, Str: "s"}), literal(api.Value{Kind: 4}), literal(api.Value{Kind: api.KBool, Bool: true, Int: 1}), text(strings.Repeat("s", 257)),
		{Kind: api.ERef, Var: "AND", At: api.AtOne, Attr: "x"}, {Kind: api.ERef, Var: "a", At: api.AtAll, Attr: "x"}, {Kind: api.ERef, Var: "a", At: api.AtOne, Attr: "x", Kids: []api.Expr{sum}},
		{Kind: api.EAgg, Op: 5, Var: "a", At: api.AtAll, Attr: "x"}, {Kind: api.EAgg, Op: api.FCount, Var: "a", At: api.AtAll, Attr: "x"},
		under(32, api.ONot, truth(true)), under(40, api.ONeg, number(1)), chained(33, api.OAdd, true, number(1)), chained(33, api.OAnd, false, truth(true)),
		un(api.ONot, un(api.ONot, doubled(8, api.OAnd, truth(true)))), doubled(9, api.OAdd, number(1)),
	}
	for _, e := range all[:len(all):len(all)] {
		all = append(all, un(api.ONot, un(api.ONot, e)), bin(api.OAnd, truth(true), e), bin(api.OEq, e, e), bin(api.OAnd, bin(api.OAnd, e, truth(true)), truth(false)))
	}
	return all
}

func TestFaultyStayAsTheyAre(t *testing.T) {
	for _, e := range faulty() {
		becomes(t, e, e)
	}
	// So deep that a call within a call for each level would need much memory, and wide.
	deep := un(api.ONot, expr("1 + 1"))
	deep = under(1_000_000, api.ONot, deep)
	if nodes, depth := tree.Size(fold.Fold(deep)); nodes != 1_000_004 || depth != 1_000_003 {
		t.Errorf("P9.1: of an expression of many levels there are left %d nodes, %d deep", nodes, depth)
	}
	wide := bin(api.OAdd, slices.Repeat([]api.Expr{expr("1 + 1")}, 100_000)...)
	if !tree.Equal(fold.Fold(wide), wide) {
		t.Error("P9.1: an expression of many Kids became another one")
	}
}

// TestGreatest folds expressions that are just as great as they may be.
func TestGreatest(t *testing.T) {
	becomes(t, under(31, api.ONot, truth(true)), truth(false))
	becomes(t, under(31, api.ONeg, expr("a.x")), expr("-a.x"))
	becomes(t, chained(32, api.OAdd, true, number(1)), number(32))
	becomes(t, chained(32, api.OAdd, false, number(1)), number(32))
	becomes(t, un(api.ONot, doubled(8, api.OAnd, truth(true))), truth(false))
	becomes(t, doubled(8, api.OSub, expr("a.x")), number(0))
	becomes(t, doubled(8, api.OOr, expr("a.ok")), expr("a.ok"))
	becomes(t, doubled(8, api.OAdd, expr("a.x")), doubled(8, api.OAdd, expr("a.x")))
	long := text(strings.Repeat("\x00", 256)) // a text of more than 1024 bytes: with others no text at all
	becomes(t, doubled(8, api.OAdd, long), doubled(8, api.OAdd, long))
	becomes(t, un(api.ONot, un(api.ONot, doubled(7, api.OAdd, long))), doubled(7, api.OAdd, long))
}
