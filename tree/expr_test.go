package tree_test

import (
	"fmt"
	"math"
	"slices"
	"strings"
	"testing"

	"refrain/api"
	"refrain/tree"
)

func literal(v api.Value) api.Expr { return api.Expr{Kind: api.ELit, Val: v} }

func number(n int64) api.Expr { return literal(api.Value{Kind: api.KInt, Int: n}) }

func text(s string) api.Expr { return literal(api.Value{Kind: api.KStr, Str: s}) }

func truth(b bool) api.Expr { return literal(api.Value{Kind: api.KBool, Bool: b}) }

func ref(v string, at int, attr string) api.Expr {
	return api.Expr{Kind: api.ERef, Var: v, At: at, Attr: attr}
}

func call(function int, v string, at int, attr string) api.Expr {
	return api.Expr{Kind: api.EAgg, Op: function, Var: v, At: at, Attr: attr}
}

func un(op int, kids ...api.Expr) api.Expr { return api.Expr{Kind: api.EUn, Op: op, Kids: kids} }

func bin(op int, kids ...api.Expr) api.Expr { return api.Expr{Kind: api.EBin, Op: op, Kids: kids} }

func ax() api.Expr { return ref("a", api.AtOne, "x") }

// under gives an expression under some NOTs.
func under(times int, e api.Expr) api.Expr {
	for range times {
		e = un(api.ONot, e)
	}
	return e
}

// wide gives sums of a number, of 2^levels - 1 nodes.
func wide(levels int) api.Expr {
	e := number(1)
	for range levels - 1 {
		e = bin(api.OAdd, e, e)
	}
	return e
}

// strung gives a sum of strings of so many bytes: what kinds it has is not asked.
func strung(sizes ...int) api.Expr {
	e := text(strings.Repeat("s", sizes[0]))
	for _, size := range sizes[1:] {
		e = bin(api.OAdd, e, text(strings.Repeat("s", size)))
	}
	return e
}

// ones gives a number as often as this.
func ones(times int) []api.Expr { return slices.Repeat([]api.Expr{number(1)}, times) }

// shown tells an expression's own fields: the whole may be without end.
func shown(e api.Expr) string {
	return fmt.Sprintf("{%d %d %.40v %.40q %d %.40q, %d Kids}", e.Kind, e.Op, e.Val, e.Var, e.At, e.Attr, len(e.Kids))
}

// writes holds PrintExpr against the text that it is to answer, and reads that.
func writes(t *testing.T, e api.Expr, want string) {
	t.Helper()
	got, err := tree.PrintExpr(e)
	if got != want || err != api.OK {
		t.Errorf("P6.3: PrintExpr(%s) = %.80q, %d, want %.80q", shown(e), got, err, want)
		return
	}
	r := readerOf(got)
	if read := r.expr(); !r.ended() || !sameExpr(read, e) {
		t.Errorf("P6.4: %.80q is the text of %s, and reads as %s", got, shown(e), shown(read))
	}
}

func writesNot(t *testing.T, e api.Expr, fault api.Errno) {
	t.Helper()
	if got, err := tree.PrintExpr(e); got != "" || err != fault {
		t.Errorf("P6.3: PrintExpr(%s) = %.80q, %d, want %d", shown(e), got, err, fault)
	}
}

func TestPrintExpr(t *testing.T) {
	one, two, three, yes, no := number(1), number(2), number(3), truth(true), truth(false)
	writes(t, bin(api.OSub, bin(api.OSub, ax(), one), two), "a.x - 1 - 2")
	writes(t, bin(api.OSub, ax(), bin(api.OSub, one, two)), "a.x - (1 - 2)")
	writes(t, bin(api.OMul, bin(api.OAdd, ax(), one), two), "(a.x + 1) * 2")
	writes(t, bin(api.OAdd, ax(), bin(api.OMul, one, two)), "a.x + 1 * 2")
	writes(t, bin(api.OMul, bin(api.OMul, one, two), bin(api.OMul, two, three)), "1 * 2 * (2 * 3)")
	writes(t, un(api.ONeg, un(api.ONeg, one)), "- -1")
	writes(t, un(api.ONeg, un(api.ONeg, un(api.ONeg, ax()))), "- - -a.x")
	writes(t, bin(api.OSub, one, un(api.ONeg, two)), "1 - -2")
	writes(t, bin(api.OSub, one, un(api.ONeg, un(api.ONeg, two))), "1 - - -2")
	writes(t, un(api.ONeg, bin(api.OMul, one, two)), "-(1 * 2)")
	writes(t, un(api.ONeg, bin(api.OMul, un(api.ONeg, one), two)), "-(-1 * 2)")
	writes(t, un(api.ONeg, un(api.ONot, yes)), "-(NOT TRUE)")
	writes(t, bin(api.OMul, un(api.ONeg, one), two), "-1 * 2")
	writes(t, bin(api.OMul, one, un(api.ONeg, two)), "1 * -2")
	writes(t, un(api.ONot, bin(api.OEq, ax(), one)), "NOT a.x = 1")
	writes(t, un(api.ONot, un(api.ONeg, one)), "NOT -1")
	writes(t, bin(api.OEq, un(api.ONot, yes), no), "(NOT TRUE) = FALSE")
	writes(t, bin(api.OEq, yes, un(api.ONot, no)), "TRUE = (NOT FALSE)")
	writes(t, bin(api.OAnd, bin(api.OOr, yes, no), un(api.ONot, un(api.ONot, yes))), "(TRUE OR FALSE) AND NOT NOT TRUE")
	writes(t, bin(api.OAnd, un(api.ONot, yes), no), "NOT TRUE AND FALSE")
	writes(t, un(api.ONot, bin(api.OAnd, yes, no)), "NOT (TRUE AND FALSE)")
	writes(t, bin(api.OAnd, yes, bin(api.OAnd, no, yes)), "TRUE AND (FALSE AND TRUE)")
	writes(t, bin(api.OAnd, bin(api.OAnd, yes, no), yes), "TRUE AND FALSE AND TRUE")
	writes(t, bin(api.OOr, bin(api.OAnd, yes, no), bin(api.OOr, no, yes)), "TRUE AND FALSE OR (FALSE OR TRUE)")
	writes(t, bin(api.OOr, bin(api.OOr, yes, no), bin(api.OAnd, no, yes)), "TRUE OR FALSE OR FALSE AND TRUE")
	writes(t, bin(api.OLt, bin(api.OLe, one, two), bin(api.OGe, two, three)), "(1 <= 2) < (2 >= 3)")
	writes(t, bin(api.OGt, bin(api.OAdd, one, two), bin(api.OSub, two, three)), "1 + 2 > 2 - 3")
	writes(t, bin(api.ONe, bin(api.OAnd, yes, no), bin(api.OOr, no, yes)), "(TRUE AND FALSE) != (FALSE OR TRUE)")
	writes(t, bin(api.OGt, ref("b", api.AtCur, "x"), call(api.FMax, "b", api.AtBefore, "x")), "b[i].x > max(b[..i-1].x)")
	writes(t, bin(api.OEq, call(api.FCount, "b", api.AtAll, ""), three), "count(b) = 3")
}

func TestPrintExprWithoutOperations(t *testing.T) {
	writes(t, number(0), "0")
	writes(t, number(math.MaxInt64), "9223372036854775807")
	writes(t, truth(true), "TRUE")
	writes(t, truth(false), "FALSE")
	writes(t, text(""), `""`)
	writes(t, text("-1"), `"-1"`)
	writes(t, un(api.ONeg, text("-1")), `-"-1"`)
	writes(t, text("a\"\\\n\t\x00\x7f\xff"), `"a\"\\\n\t\x00\x7f\xff"`)
	writes(t, text(strings.Repeat("\xff", 256)), `"`+strings.Repeat(`\xff`, 256)+`"`)
	writes(t, ax(), "a.x")
	writes(t, ref("a", api.AtOne, "time"), "a.time")
	writes(t, ref("b", api.AtCur, "x"), "b[i].x")
	writes(t, ref("b", api.AtPrev, "x"), "b[i-1].x")
	writes(t, ref("b", api.AtFirst, "x"), "b[first].x")
	writes(t, ref("b", api.AtLast, "x"), "b[last].x")
	writes(t, call(api.FCount, "b", api.AtAll, ""), "count(b)")
	writes(t, call(api.FCount, "b", api.AtBefore, ""), "count(b[..i-1])")
	for op, word := range map[int]string{api.FSum: "sum", api.FMin: "min", api.FMax: "max"} {
		writes(t, call(op, "b", api.AtAll, "x"), word+"(b.x)")
		writes(t, call(op, "b", api.AtBefore, "x"), word+"(b[..i-1].x)")
	}
	// Words that the grammar has in quotes, but that are names as well.
	for _, s := range strings.Fields("any next strict count sum min max i first last time _ T9") {
		writes(t, ref(s, api.AtOne, s), s+"."+s)
		writes(t, ref(s, api.AtPrev, s), s+"[i-1]."+s)
		writes(t, call(api.FSum, s, api.AtAll, s), "sum("+s+"."+s+")")
		writes(t, call(api.FCount, s, api.AtBefore, ""), "count("+s+"[..i-1])")
	}
	long := strings.Repeat("w", 32)
	writes(t, ref(long, api.AtLast, long), long+"[last]."+long)
	// A list of no Kids is as none.
	e := ax()
	e.Kids = []api.Expr{}
	writes(t, e, "a.x")
}

// noNames are texts that are no names.
func noNames() []string {
	return []string{"9", "9a", "a b", " a", "a ", "a.b", "a-b", "a[]", "(", "é", "\xff", "a\x00", "SEQ", "AND", "INT", "TRUE", strings.Repeat("w", 33), strings.Repeat("w", 1<<20)}
}

// noForms are expressions whose own form is not right; their Kids are.
func noForms() []api.Expr {
	x := number(1)
	l := []api.Expr{{}, {Kind: api.ELit}, number(-1), number(math.MinInt64), text(strings.Repeat("s", 257)), literal(api.Value{Kind: api.KInt, Int: 1, Bool: true}), literal(api.Value{Kind: api.KStr, Str: "s", Int: 1}), literal(api.Value{Kind: api.KBool, Str: "s"}), literal(api.Value{Kind: 4}), literal(api.Value{Kind: -1})}
	for _, kind := range []int{math.MinInt64, -1, 0, 6, 7, 256 + api.ELit, 1<<32 + api.ERef, math.MaxInt64} {
		l = append(l, api.Expr{Kind: kind}, api.Expr{Kind: kind, Val: x.Val}, api.Expr{Kind: kind, Var: "a", At: 1, Attr: "x"}, api.Expr{Kind: kind, Op: api.ONot, Kids: []api.Expr{x}})
	}
	for _, n := range []int{math.MinInt64, -1, 0, 6, 7, 8, 1<<32 + 1, math.MaxInt64} {
		l = append(l, ref("a", n, "x"))
	}
	for _, n := range []int{math.MinInt64, -1, 0, 1, 2, 3, 4, 5, 8, 1<<32 + 6, math.MaxInt64} {
		l = append(l, call(api.FCount, "b", n, ""), call(api.FSum, "b", n, "x"))
	}
	for _, n := range []int{math.MinInt64, -1, 0, 5, 6, 1<<32 + 1, math.MaxInt64} {
		l = append(l, call(n, "b", api.AtAll, "x"), call(n, "b", api.AtAll, ""))
	}
	for op := -2; op < 20; op++ {
		if op != api.ONeg && op != api.ONot {
			l = append(l, un(op, x))
		}
		if op < api.OAdd || op > api.OOr {
			l = append(l, bin(op, x, x))
		}
	}
	l = append(l, un(math.MaxInt64, x), un(1<<32+api.ONot, x), bin(math.MinInt64, x, x), bin(1<<32+api.OAdd, x, x))
	l = append(l, un(api.ONot), un(api.ONeg, x, x), un(api.ONot, x, x, x), bin(api.OAnd), bin(api.OEq, x), bin(api.OSub, x, x, x))
	for _, s := range append(noNames(), "") {
		l = append(l, ref(s, api.AtOne, "x"), ref(s, api.AtCur, "x"), ref("a", api.AtOne, s), ref("b", api.AtLast, s), call(api.FCount, s, api.AtAll, ""), call(api.FMin, s, api.AtAll, "x"), call(api.FSum, "b", api.AtBefore, s))
		if s != "" {
			l = append(l, call(api.FCount, "b", api.AtAll, s))
		}
	}
	return append(append(l, call(api.FCount, "b", api.AtBefore, "x")), oversaid()...)
}

// oversaid are expressions with a field of which their kind does not speak.
func oversaid() []api.Expr {
	op := func(e api.Expr) api.Expr { e.Op = 1; return e }
	val := func(e api.Expr) api.Expr { e.Val = api.Value{Kind: api.KBool}; return e }
	odd := func(e api.Expr) api.Expr { e.Val.Int = 1; return e }
	name := func(e api.Expr) api.Expr { e.Var = "a"; return e }
	at := func(e api.Expr) api.Expr { e.At = api.AtOne; return e }
	attr := func(e api.Expr) api.Expr { e.Attr = "x"; return e }
	kids := func(e api.Expr) api.Expr { e.Kids = []api.Expr{ax()}; return e }
	r, c, s := ax(), call(api.FCount, "b", api.AtAll, ""), call(api.FSum, "b", api.AtAll, "x")
	l := []api.Expr{op(r), val(r), odd(r), kids(r), val(c), odd(c), kids(c), val(s), odd(s), kids(s)}
	for _, e := range []api.Expr{number(1), text("s"), truth(true)} {
		l = append(l, op(e), name(e), at(e), attr(e), kids(e))
	}
	for _, e := range []api.Expr{un(api.ONot, ax()), bin(api.OAdd, ax(), ax())} {
		l = append(l, val(e), odd(e), name(e), at(e), attr(e))
	}
	return l
}

func TestPrintExprRefusesForms(t *testing.T) {
	x := number(1)
	for _, e := range noForms() {
		writesNot(t, e, api.ErrTree)
		writesNot(t, un(api.ONot, e), api.ErrTree)
		writesNot(t, bin(api.OAdd, e, x), api.ErrTree)
		writesNot(t, bin(api.OAdd, x, e), api.ErrTree)
		writesNot(t, bin(api.OEq, bin(api.OMul, x, un(api.ONeg, e)), x), api.ErrTree)
		// Another fault is told ahead of the form.
		writesNot(t, under(31, bin(api.OAnd, x, e)), api.ErrDeep)
		writesNot(t, bin(api.OAdd, wide(8), e), api.ErrLong)
	}
}

func TestPrintExprBounds(t *testing.T) {
	writes(t, under(31, truth(true)), strings.Repeat("NOT ", 31)+"TRUE")
	writesNot(t, under(32, truth(true)), api.ErrDeep)
	writesNot(t, under(32, number(-1)), api.ErrDeep)
	writesNot(t, bin(api.OAnd, truth(true), under(31, truth(true))), api.ErrDeep)
	writesNot(t, under(1_000_000, truth(true)), api.ErrDeep)
	// 255 nodes and one more; two more.
	if s, err := tree.PrintExpr(un(api.ONeg, wide(8))); err != api.OK || s != "-("+modelText(wide(8), 1)+")" {
		t.Errorf("P6.3: of 256 nodes: %q, %d", s, err)
	}
	writesNot(t, un(api.ONeg, un(api.ONeg, wide(8))), api.ErrLong)
	writesNot(t, bin(api.OAdd, wide(8), number(1)), api.ErrLong)
	writesNot(t, wide(20), api.ErrLong)
	writesNot(t, wide(33), api.ErrDeep)
	writesNot(t, wide(60), api.ErrDeep)
	// The depth is told first, wherever it is.
	writesNot(t, bin(api.OAdd, wide(20), under(32, number(1))), api.ErrDeep)
	writesNot(t, bin(api.OAdd, under(32, number(1)), wide(20)), api.ErrDeep)
	// Kids are counted of every kind.
	writesNot(t, api.Expr{Kind: api.ELit, Kids: []api.Expr{under(31, number(1))}}, api.ErrDeep)
	writesNot(t, api.Expr{Kind: api.ERef, Kids: ones(256)}, api.ErrLong)
	writesNot(t, api.Expr{Kind: api.ERef, Kids: ones(255)}, api.ErrTree)
	writesNot(t, api.Expr{Kind: -7, Kids: ones(1_000_000)}, api.ErrLong)
	round := []api.Expr{number(1), un(api.ONot)}
	round[1].Kids = round
	writesNot(t, round[1], api.ErrDeep)
}

func TestPrintExprTellsLongTexts(t *testing.T) {
	full := slices.Repeat([]int{256}, 15)
	// 15 strings of 258 bytes with their quotes, 15 signs of 3 bytes, and one of 181.
	e := strung(append(slices.Clone(full), 179)...)
	if want := modelText(e, 1); len(want) != 4096 {
		t.Fatalf("a text of %d bytes", len(want))
	}
	writes(t, e, modelText(e, 1))
	writesNot(t, strung(append(full, 180)...), api.ErrLong)
	writesNot(t, un(api.ONeg, e), api.ErrLong)
	writesNot(t, strung(slices.Repeat([]int{256}, 31)...), api.ErrLong)
	// It counts what is written, not what that stands for.
	bytes := text(strings.Repeat("\xff", 256))
	writes(t, bin(api.OEq, bytes, bin(api.OEq, bytes, bytes)), modelText(bin(api.OEq, bytes, bin(api.OEq, bytes, bytes)), 1))
	writesNot(t, bin(api.OEq, bin(api.OEq, bytes, bytes), bin(api.OEq, bytes, bytes)), api.ErrLong)
	// Every other fault is told ahead of it.
	writesNot(t, bin(api.OEq, e, number(-1)), api.ErrTree)
	writesNot(t, under(32, e), api.ErrDeep)
	writesNot(t, bin(api.OEq, e, wide(8)), api.ErrLong)
}
