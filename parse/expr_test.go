package parse_test

import (
	"fmt"
	"math"
	"reflect"
	"slices"
	"strings"
	"testing"

	"refrain/api"
	"refrain/parse"
)

func literal(v api.Value) api.Expr { return api.Expr{Kind: api.ELit, Val: v} }

func number(n int64) api.Expr { return literal(api.Value{Kind: api.KInt, Int: n}) }

func text(s string) api.Expr { return literal(api.Value{Kind: api.KStr, Str: s}) }

func truth(b bool) api.Expr { return literal(api.Value{Kind: api.KBool, Bool: b}) }

func ref(v string, at int, attr string) api.Expr {
	return api.Expr{Kind: api.ERef, Var: v, At: at, Attr: attr}
}

func call(function int, v string, at int, attr string) api.Expr {
	return api.Expr{Kind: api.EAgg, Op: function, Var: v, At: at, Attr: attr}
}

func un(op int, kids ...api.Expr) api.Expr { return api.Expr{Kind: api.EUn, Op: op, Kids: kids} }

func bin(op int, kids ...api.Expr) api.Expr { return api.Expr{Kind: api.EBin, Op: op, Kids: kids} }

// under gives an expression under an operation on one, so many times.
func under(op, times int, e api.Expr) api.Expr {
	for range times {
		e = un(op, e)
	}
	return e
}

// sameExpr tells whether two expressions are the same, an empty list being the same as none.
func sameExpr(a, b api.Expr) bool {
	kids := slices.EqualFunc(a.Kids, b.Kids, sameExpr)
	a.Kids, b.Kids = nil, nil
	return kids && reflect.DeepEqual(a, b)
}

// short tells a thing in not too many bytes.
func short(thing any) string { return fmt.Sprintf("%.300s", fmt.Sprintf("%+v", thing)) }

// pointed gives a text without the @ in it, and the place of that.
func pointed(marked string) (string, int) {
	ahead, behind, _ := strings.Cut(marked, "@")
	return ahead + behind, len(ahead)
}

// softWords have a meaning in some place of the grammar, and are names elsewhere.
func softWords() []string {
	return []string{"any", "next", "strict", "count", "sum", "min", "max", "i", "first", "last"}
}

// hardWords are no names.
func hardWords() []string {
	return []string{"PATTERN", "SEQ", "PARTITION", "BY", "WHERE", "WITHIN", "RETURN", "AND", "OR", "NOT", "TRUE", "FALSE", "TYPE", "INT", "STR", "BOOL"}
}

// beginsExpr tells whether an expression may begin with a word that is no name.
func beginsExpr(word string) bool { return word == "TRUE" || word == "FALSE" || word == "NOT" }

// reads holds Expr against the tree that it is to answer.
func reads(t *testing.T, text string, want api.Expr) {
	t.Helper()
	if got, at, err := parse.Expr(text); !sameExpr(got, want) || at != 0 || err != api.OK {
		t.Errorf("P7.2: Expr(%.100q) = %s, %d, %d, want %s", text, short(got), at, err, short(want))
	}
}

// readsNot holds Expr against the fault that it is to tell, at the @ in the text.
func readsNot(t *testing.T, fault api.Errno, marked ...string) {
	t.Helper()
	for _, m := range marked {
		text, at := pointed(m)
		if got, place, err := parse.Expr(text); !reflect.DeepEqual(got, api.Expr{}) || place != at || err != fault {
			t.Errorf("P7.2: Expr(%.100q) = %s, %d, %d, want %d, %d", text, short(got), place, err, at, fault)
		}
	}
}

func TestExprExamples(t *testing.T) {
	one, two, three := number(1), number(2), number(3)
	reads(t, "1 - 2 - 3 * 4", bin(api.OSub, bin(api.OSub, one, two), bin(api.OMul, three, number(4))))
	reads(t, "NOT a.x = 1 AND b.y", bin(api.OAnd, un(api.ONot, bin(api.OEq, ref("a", api.AtOne, "x"), one)), ref("b", api.AtOne, "y")))
	reads(t, "sum.x + sum(b.x)", bin(api.OAdd, ref("sum", api.AtOne, "x"), call(api.FSum, "b", api.AtAll, "x")))
	reads(t, "b[i - 1].x", ref("b", api.AtPrev, "x"))
	reads(t, "count(b[..i-1])", call(api.FCount, "b", api.AtBefore, ""))
	reads(t, strings.Repeat("- ", 31)+"1", under(api.ONeg, 31, one))
	reads(t, strings.Repeat("(", 40)+"1"+strings.Repeat(")", 40), one)
	readsNot(t, api.ErrWant, "a.x < 1 @< 2", "1 = @NOT TRUE", "avg@(b.x)", "count(b@.x)", "sum(b@)", "b[i-@2].x", "b[@j].x")
	readsNot(t, api.ErrDeep, "@"+strings.Repeat("- ", 32)+"1")
}

func TestLiterals(t *testing.T) {
	for text, n := range map[string]int64{"0": 0, "7": 7, "10": 10, "9223372036854775806": math.MaxInt64 - 1, "9223372036854775807": math.MaxInt64} {
		reads(t, text, number(n))
		reads(t, "-"+text, un(api.ONeg, number(n)))
	}
	reads(t, `""`, text(""))
	reads(t, `"a.x"`, text("a.x"))
	reads(t, `"\x41\n\"\\\xff"`, text("A\n\"\\\xff"))
	reads(t, `"TRUE"`, text("TRUE"))
	reads(t, `"1"`, text("1"))
	reads(t, `"("`, text("("))
	reads(t, `"`+strings.Repeat("s", 256)+`"`, text(strings.Repeat("s", 256)))
	reads(t, "TRUE", truth(true))
	reads(t, "FALSE", truth(false))
	reads(t, "true.x", ref("true", api.AtOne, "x"))
	readsNot(t, api.ErrWant, "true@", "False@", `- -@`, `"1" @"2"`, "1 @2")
	readsNot(t, api.ErrLit, "@9223372036854775808", "-@9223372036854775808", "1 + @01", `@"`+strings.Repeat("s", 257)+`"`)
}

func TestReferences(t *testing.T) {
	for _, v := range append(softWords(), "a", "_9", "time", "pattern") {
		for _, x := range append(softWords(), "x", "time") {
			reads(t, v+"."+x, ref(v, api.AtOne, x))
			reads(t, v+"[i]."+x, ref(v, api.AtCur, x))
			reads(t, v+"[i-1]."+x, ref(v, api.AtPrev, x))
			reads(t, v+"[first]."+x, ref(v, api.AtFirst, x))
			reads(t, v+"[last]."+x, ref(v, api.AtLast, x))
			reads(t, v+" [ i\n- 1 ] . -- x\n"+x, ref(v, api.AtPrev, x))
			reads(t, "("+v+"[i]."+x+")", ref(v, api.AtCur, x))
		}
	}
	for _, word := range hardWords() {
		readsNot(t, api.ErrWant, "a.@"+word, "a[last].@"+word, "a[@"+word+"].x")
		if !beginsExpr(word) {
			readsNot(t, api.ErrWant, "@"+word+".x", "1 + @"+word)
		}
	}
	readsNot(t, api.ErrWant, "TRUE@.x", "NOT@.x",
		"a@", "a.@", "a.@1", "a@..x", `a.@"x"`, "a @x", "a[@", "a[@]", "a[@].x", "a[@0].x", "a[@1].x", `a[@"i"].x`, "a[@-1].x", "a[@First].x", "a[@..i-1].x",
		"a[i@", "a[i@.x", "a[i@)", "a[i@+1].x", "a[i @1].x", "a[i@,i].x", "a[i--1].x@", "a[i-@", "a[i-@]", "a[i-@0].x", "a[i-@11].x", `a[i-@"1"].x`, "a[i-@i].x", "a[i-1@", "a[i-1@-1].x", "a[i-1@)",
		"a[i]@", "a[i]@x", "a[i]@[i].x", "a[i-1]@", "a[i-1]@..x", "a[first@-1].x", "a[last@-1].x", "a[first@", "a[last@", "a[first] @x",
		"a[i].@", "a[i].x@.y", "a.x@.y", "a.x@[i]", "a.x@(", "(a@).x", "a@(b.x)")
}

func TestFunctions(t *testing.T) {
	for _, v := range append(softWords(), "b", "time") {
		reads(t, "count("+v+")", call(api.FCount, v, api.AtAll, ""))
		reads(t, "count("+v+"[..i-1])", call(api.FCount, v, api.AtBefore, ""))
		for word, function := range map[string]int{"sum": api.FSum, "min": api.FMin, "max": api.FMax} {
			for _, x := range append(softWords(), "x") {
				reads(t, word+"("+v+"."+x+")", call(function, v, api.AtAll, x))
				reads(t, word+"("+v+"[..i-1]."+x+")", call(function, v, api.AtBefore, x))
				reads(t, word+" -- of\n( "+v+" [ .. i - 1 ] . "+x+"\t)", call(function, v, api.AtBefore, x))
			}
		}
	}
	for _, word := range hardWords() {
		readsNot(t, api.ErrWant, "count(@"+word+")", "sum(@"+word+".x)", "sum(b.@"+word+")")
		if !beginsExpr(word) {
			readsNot(t, api.ErrWant, "@"+word+"(b)", "@"+word+"(b.x)")
		}
	}
	for _, word := range []string{"avg", "Count", "COUNT", "Sum", "any", "next", "strict", "i", "first", "last", "x"} {
		readsNot(t, api.ErrWant, word+"@(b)", word+"@(b.x)")
	}
	readsNot(t, api.ErrWant,
		"count@", "count @1", "count(@", "count(@)", "count(@1)", `count(@"b")`, "count(@(b))", "count(b@", "count(b@,c)", "count(b@]", "count(b@.x)", "count(b[@i-1])", "count(b[@i])", "count(b[@first])", "count(b[@]", "count(b[@.i-1])",
		"count(b[..@", "count(b[..@]", "count(b[..@.i-1])", "count(b[..@j-1])", "count(b[..i@]", "count(b[..i@+1])", "count(b[..i-@2])", `count(b[..i-@"1"])`, "count(b[..i-1@)", "count(b[..i-1]@", "count(b[..i-1]@.x)", "count(b)@.x",
		"sum(@)", "sum(b@)", "sum(b@", "sum(b.@", "sum(b.x@", "sum(b.@1)", "sum(b.x@.y)", "sum(b[@i].x)", "sum(b[..i-1]@)", "sum(b[..i-1] @x)", "sum(b[..i-1]@..x)", "sum(b.x@[..i-1])", "sum(b.x @+ 1)", "sum(@-b.x)", "sum(b@..x)", "sum(sum@)", "sum(@(b.x))", "min(max@(b.x))", "max @b.x")
}

// lead is an operation on two: how it is written, and how close it holds.
type lead struct {
	sign      string
	op, level int
}

func leads() []lead {
	return []lead{{"OR", api.OOr, 1}, {"AND", api.OAnd, 2}, {"=", api.OEq, 4}, {"!=", api.ONe, 4}, {"<", api.OLt, 4}, {"<=", api.OLe, 4}, {">", api.OGt, 4}, {">=", api.OGe, 4}, {"+", api.OAdd, 5}, {"-", api.OSub, 5}, {"*", api.OMul, 6}}
}

func not(e api.Expr) api.Expr { return un(api.ONot, e) }

func neg(e api.Expr) api.Expr { return un(api.ONeg, e) }

func TestOperations(t *testing.T) {
	a, b := ref("a", api.AtOne, "x"), number(1)
	for _, one := range leads() {
		plain, tree := "a.x "+one.sign+" 1", bin(one.op, a, b)
		reads(t, plain, tree)
		reads(t, "("+plain+")", tree)
		reads(t, "((a.x) "+one.sign+" ((1)))", tree)
		reads(t, "NOT ("+plain+")", not(tree))
		reads(t, "-("+plain+")", neg(tree))
		reads(t, "-"+plain, bin(one.op, neg(a), b))
		reads(t, "a.x "+one.sign+" -1", bin(one.op, a, neg(b)))
		reads(t, "(NOT a.x) "+one.sign+" (NOT 1)", bin(one.op, not(a), not(b)))
		readsNot(t, api.ErrWant, "a.x "+one.sign+"@", "(a.x "+one.sign+" @)", "a.x "+one.sign+" @* 1", "a.x "+one.sign+" @AND 1")
		if one.op != api.OSub {
			readsNot(t, api.ErrWant, "@"+one.sign+" 1", "-@"+one.sign+" 1")
		}
		if one.level < 3 {
			reads(t, "NOT "+plain, bin(one.op, not(a), b))
			reads(t, "a.x "+one.sign+" NOT NOT 1", bin(one.op, a, not(not(b))))
		} else {
			reads(t, "NOT "+plain, not(tree))
			readsNot(t, api.ErrWant, "a.x "+one.sign+" @NOT 1")
		}
	}
	reads(t, "NOT - - 1", not(neg(neg(b))))
	readsNot(t, api.ErrWant, "- @NOT 1", "NOT @= 1")
}

func TestLevels(t *testing.T) {
	a, b, c := ref("a", api.AtOne, "x"), number(1), text("s")
	for _, one := range leads() {
		for _, two := range leads() {
			ahead, behind := "a.x "+one.sign+" 1 ", two.sign+` "s"`
			first, second := bin(two.op, bin(one.op, a, b), c), bin(one.op, a, bin(two.op, b, c))
			reads(t, "("+ahead+") "+behind, first)
			reads(t, "a.x "+one.sign+" (1 "+behind+")", second)
			switch {
			case one.level == 4 && two.level == 4:
				readsNot(t, api.ErrWant, ahead+"@"+behind, "("+ahead+"@"+behind+")", "NOT "+ahead+"@"+behind, "TRUE OR "+ahead+"@"+behind)
			case one.level >= two.level:
				reads(t, ahead+behind, first)
			default:
				reads(t, ahead+behind, second)
			}
		}
	}
	reads(t, "a.x = 1 AND 1 = a.x", bin(api.OAnd, bin(api.OEq, a, b), bin(api.OEq, b, a)))
	readsNot(t, api.ErrWant, "1 < (2 < 3) @< 4", "1 != 2 + 3 @<= 4", "NOT 1 = @NOT 2", "(NOT 1 = 2 @= 3)")
}

func TestExprWants(t *testing.T) {
	readsNot(t, api.ErrWant,
		"@", " @", "-- 1@", "1 @1", "1 @a.x", "a.x @b.x", "TRUE @TRUE", "1 @NOT TRUE", "(@)", "(@", "(1@", "(1@]", "(1@,2)", "((1)@", "1@)", "(1)@)", "@[1]", "@[a]", "@{1}", "1@,", "1 @{", "@!TRUE", "1 @! 2", "1 @..", "@.x",
		"1 +@", "NOT@", "-@", "1 + @+ 1", "1 * @* 1", "1 = @= 1", "1 AND @OR 2", "1 @IN 2", "1 @and 2", "not @TRUE", "1 @WHERE", "@PATTERN", `"a" @b.x`, "1 -- 1\n@2")
	// What Scan tells comes ahead of all else, wherever it is.
	readsNot(t, api.ErrChar, "1 1 @&", ") @\xff")
	readsNot(t, api.ErrOpen, `) @"x`)
	readsNot(t, api.ErrLit, strings.Repeat("- ", 40)+"1 @007")
	readsNot(t, api.ErrLong, "@1"+strings.Repeat(" ", 4096), "@"+strings.Repeat("(", 4097))
	reads(t, "1"+strings.Repeat(" ", 4095), number(1))
}

// wide gives a sum of so many ones (1 less than twice as many nodes), not so deep.
func wide(ones int) string {
	if ones == 1 {
		return "1"
	}
	return "(" + wide(ones/2) + "+" + wide(ones-ones/2) + ")"
}

func TestExprBounds(t *testing.T) {
	for _, most := range []string{"-" + wide(128), strings.Repeat("NOT ", 31) + "TRUE", "1" + strings.Repeat("+1", 31), strings.Repeat("(1-", 31) + "1" + strings.Repeat(")", 31)} {
		if e, at, err := parse.Expr(most); err != api.OK || at != 0 || e.Kind == 0 {
			t.Errorf("P7.2: Expr(%.100q), of 256 nodes or of the depth 32: %d, %d", most, at, err)
		}
	}
	readsNot(t, api.ErrLong, "@"+wide(129), "@- -"+wide(128), " \n@("+wide(129)+")")
	// Of both faults too many nodes is told.
	readsNot(t, api.ErrDeep, "@"+strings.Repeat("- ", 255)+"1", "@1"+strings.Repeat("+1", 127))
	readsNot(t, api.ErrLong, "@"+strings.Repeat("- ", 256)+"1", "@1"+strings.Repeat("+1", 128))
	for _, over := range []struct {
		fault api.Errno
		text  string
	}{
		{api.ErrDeep, strings.Repeat("NOT ", 32) + "TRUE"},
		{api.ErrDeep, "1" + strings.Repeat("+1", 32)},
		{api.ErrDeep, strings.Repeat("(1-", 32) + "1" + strings.Repeat(")", 32)},
		{api.ErrLong, wide(200)},
		{api.ErrLong, strings.Repeat("- ", 2000) + "1"},
	} {
		text := over.text
		readsNot(t, over.fault, "@"+text, "  @"+text, "@("+text+")")
		// What cannot go on with it comes behind that; what can, and what is in it, ahead.
		for _, next := range []string{"1", "a", ")", "]", "}", ",", "NOT", "TRUE", `"s"`, "WITHIN", "(", "!", "."} {
			readsNot(t, over.fault, "@"+text+" "+next)
		}
		for _, next := range []string{"+", "-", "*", "AND", "OR"} {
			readsNot(t, over.fault, "@"+text+" "+next+" 1")
			readsNot(t, api.ErrWant, text+" "+next+"@", text+" "+next+" @)", text+" "+next+" 1 "+next+" @]")
		}
		readsNot(t, api.ErrWant, "("+text+" @1", "("+text+"@", "("+text+" @}")
	}
}

func TestBracketsAreNoNodes(t *testing.T) {
	reads(t, strings.Repeat("(", 2047)+"1"+strings.Repeat(")", 2047), number(1))
	reads(t, strings.Repeat("(", 1000)+"-(1)"+strings.Repeat(")", 1000), neg(number(1)))
	readsNot(t, api.ErrWant, strings.Repeat("(", 4096)+"@", strings.Repeat("(", 2048)+"1"+strings.Repeat(")", 2047)+"@", strings.Repeat("- ", 2048)+"@", strings.Repeat("NOT ", 1024)+"@", strings.Repeat("-(", 2000)+"1"+strings.Repeat(")", 90)+"@")
}
