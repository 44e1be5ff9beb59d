package parse_test

import (
	"math"
	"reflect"
	"slices"
	"strings"
	"testing"

	"refrain/api"
	"refrain/parse"
)

// Queries with a mark ahead of each part's place: spotted tells which.
const (
	simple = "PATTERN SEQ(§CA a) WITHIN §S5 RETURN (§Ix = a.v)"
	full   = "PATTERN SEQ(§CA+ b[], §C!(B n), §CC c) PARTITION BY §Pk WHERE next { §E[id], §Wb[i].v > b[i-1].v, §W(c.x = 1) } WITHIN §S0 RETURN §OOut(§In = count(b), §Is = sum(b.v))"
)

func simpleQuery() api.Query {
	return api.Query{Comps: []api.Comp{{Type: "A", Var: "a"}}, Strategy: api.Any, Within: 5, Items: []api.Item{{Name: "x", Expr: ref("a", api.AtOne, "v")}}}
}

func fullQuery() api.Query {
	return api.Query{
		Comps:    []api.Comp{{Plus: true, Type: "A", Var: "b"}, {Neg: true, Type: "B", Var: "n"}, {Type: "C", Var: "c"}},
		Part:     "k",
		Strategy: api.Next,
		Equiv:    []string{"id"},
		Where:    []api.Expr{bin(api.OGt, ref("b", api.AtCur, "v"), ref("b", api.AtPrev, "v")), bin(api.OEq, ref("c", api.AtOne, "x"), number(1))},
		Out:      "Out",
		Items:    []api.Item{{Name: "n", Expr: call(api.FCount, "b", api.AtAll, "")}, {Name: "s", Expr: call(api.FSum, "b", api.AtAll, "v")}},
	}
}

// with gives the tree of simple with a change.
func with(change func(q *api.Query)) api.Query {
	q := simpleQuery()
	change(&q)
	return q
}

// changed gives the text of simple with another piece in it.
func changed(old, new string) string { return strings.Replace(simple, old, new, 1) }

// bare gives the text of simple without its marks, and with another piece in it.
func bare(old, new string) string {
	text, _ := spotted(simple)
	return strings.Replace(text, old, new, 1)
}

// marked puts a mark ahead of a piece of the text, if it has none.
func marked(text, piece string) string {
	if strings.Contains(text, "@") {
		return text
	}
	return strings.Replace(text, piece, "@"+piece, 1)
}

// spotted gives a text without its marks, and the places of these.
func spotted(marked string) (string, api.Spots) {
	pieces := strings.Split(marked, "§")
	text, s := pieces[0], api.Spots{}
	for _, piece := range pieces[1:] {
		at := len(text)
		switch piece[0] {
		case 'C':
			s.Comps = append(s.Comps, at)
		case 'P':
			s.Part = at
		case 'E':
			s.Equiv = append(s.Equiv, at)
		case 'W':
			s.Where = append(s.Where, at)
		case 'S':
			s.Within = at
		case 'O':
			s.Out = at
		case 'I':
			s.Items = append(s.Items, at)
		}
		text += piece[1:]
	}
	return text, s
}

func sameItem(a, b api.Item) bool { return a.Name == b.Name && sameExpr(a.Expr, b.Expr) }

// sameQuery tells whether two queries are the same, an empty list being the same as none.
func sameQuery(a, b api.Query) bool {
	return slices.Equal(a.Comps, b.Comps) && a.Part == b.Part && a.Strategy == b.Strategy && slices.Equal(a.Equiv, b.Equiv) && slices.EqualFunc(a.Where, b.Where, sameExpr) && a.Within == b.Within && a.Out == b.Out && slices.EqualFunc(a.Items, b.Items, sameItem)
}

func sameSpots(a, b api.Spots) bool {
	return slices.Equal(a.Comps, b.Comps) && a.Part == b.Part && slices.Equal(a.Equiv, b.Equiv) && slices.Equal(a.Where, b.Where) && a.Within == b.Within && a.Out == b.Out && slices.Equal(a.Items, b.Items)
}

// asks holds Query against the tree that it is to answer, and the places at the marks.
func asks(t *testing.T, marked string, want api.Query) {
	t.Helper()
	text, spots := spotted(marked)
	if q, s, at, err := parse.Query(text); !sameQuery(q, want) || !sameSpots(s, spots) || at != 0 || err != api.OK {
		t.Errorf("P7.1: Query(%.300q) = %s, %v, %d, %d, want %s, %v", text, short(q), s, at, err, short(want), spots)
	}
}

// asksNot holds Query against the fault that it is to tell, at the @ in the text.
func asksNot(t *testing.T, fault api.Errno, marked ...string) {
	t.Helper()
	for _, m := range marked {
		text, at := pointed(m)
		if q, s, place, err := parse.Query(text); !reflect.DeepEqual(q, api.Query{}) || !reflect.DeepEqual(s, api.Spots{}) || place != at || err != fault {
			t.Errorf("P7.1: Query(%.300q) = %s, %v, %d, %d, want %d, %d", text, short(q), s, place, err, at, fault)
		}
	}
}

func TestQueryExamples(t *testing.T) {
	if _, s, _, _ := parse.Query("PATTERN SEQ(A a) WITHIN 5 RETURN (x = a.v)"); !sameSpots(s, api.Spots{Comps: []int{12}, Within: 24, Items: []int{34}}) {
		t.Errorf("P7.1: the places %v", s)
	}
	asks(t, simple, simpleQuery())
	asks(t, full, fullQuery())
	asksNot(t, api.ErrWant, "@", "PATTERN SEQ(@)", bare("v)", "v) @1"), bare("WITHIN", "WHERE any {@} WITHIN"), "PATTERN SEQ(A @SEQ) ..")
	asksNot(t, api.ErrOpen, `PATTERN SEQ(A a @"x) ..`)
}

func TestComponents(t *testing.T) {
	asks(t, changed("§CA a", "§C!(A a), §Cany + a [ ],§CA A, §CT+t[], §C! ( U u )"), with(func(q *api.Query) {
		q.Comps = []api.Comp{{Neg: true, Type: "A", Var: "a"}, {Plus: true, Type: "any", Var: "a"}, {Type: "A", Var: "A"}, {Plus: true, Type: "T", Var: "t"}, {Neg: true, Type: "U", Var: "u"}}
	}))
	// How many there may be, and where, is not asked here.
	asks(t, changed("§CA a", "§CA a"+strings.Repeat(",§CA a", 40)), with(func(q *api.Query) {
		q.Comps = slices.Repeat(q.Comps, 41)
	}))
	for _, comps := range []string{
		"@)", "A@)", "a@,", "A a,@)", "@,A a", "A a,@,A b", "A a @b", "A a @A b", "A @1", "@1 a", `@"A" a`, `A @"a"`, "A@.a",
		"A+@)", "A+ a@)", "A+ a[@)", "A+ a[@i]", "A+ a@]", "A + @+ a[]", "A a@[]", "A a@+", "@+A a[]", "A+@[] a", "A+ a[]@[]",
		"!@A a", "!@)", "!(@)", "!(A@)", "!(A a@,", "!(A@+ a[])", "!(A a@[])", "!(@(A a))", "!@!(A a)", "@!=(A a)", "!(A a)@+", "!(@!(A a))", "@(A a)", "A @!(a)", "!(A a) @b",
	} {
		asksNot(t, api.ErrWant, "PATTERN SEQ("+comps+") WITHIN 5 RETURN (x = 1)")
	}
	asksNot(t, api.ErrWant, "PATTERN SEQ @A a", "PATTERN @(A a)", "PATTERN SEQ(A a@]", "PATTERN SEQ(A a @WITHIN 5", "@SEQ(A a)", "@PATTERN1", "@pattern SEQ(A a)", `@"PATTERN" SEQ(A a)`, "PATTERN SEQ (A a)@(")
}

func TestStrategies(t *testing.T) {
	for word, strategy := range map[string]int{"any": api.Any, "next": api.Next, "strict": api.Strict} {
		asks(t, changed("WITHIN", "WHERE "+word+" WITHIN"), with(func(q *api.Query) { q.Strategy = strategy }))
		asks(t, changed("WITHIN", "WHERE "+word+"{§E[k]} WITHIN"), with(func(q *api.Query) { q.Strategy, q.Equiv = strategy, []string{"k"} }))
		asks(t, changed("WITHIN", "WHERE "+word+"{§W1} WITHIN"), with(func(q *api.Query) { q.Strategy, q.Where = strategy, []api.Expr{number(1)} }))
	}
	for _, where := range []string{
		"WHERE", "WHERE @all", "WHERE @Any", "WHERE @ANY", `WHERE @"any"`, "WHERE @1", "WHERE @{ [k] }", "WHERE any @any", "WHERE any @[k]", "WHERE any @( 1 )", "WHERE any @any { 1 }",
		"WHERE any { @}", "WHERE any { [k]", "WHERE any { [k] @]", "WHERE any { [k], @}", "WHERE any { @, [k] }", "WHERE any { [k] @[l] }", "WHERE any { [@] }", "WHERE any { [k@, l] }", "WHERE any { [@1] }", "WHERE any { [a@.x] }", `WHERE any { [@"k"] }`, "WHERE any { [@[k]] }", "WHERE any { [k@} }", "WHERE any { 1 AND @[k] }", "WHERE any { (@[k]) }", "WHERE any { [k] @AND 1 }",
		"WHERE any { 1 @2 }", "WHERE any { 1,@, 2 }", "WHERE any { @{1} }", "WHERE any { (1 @}", "WHERE any { 1 @) }", "WHERE any { 1 } @}", "WHERE any { 1 } @{ 2 }", "WHERE any { 1 } @WHERE any", "WHERE any { 1 } @PARTITION BY k", "WHERE any { x @= 1 }", "WHERE any { 1 @] }",
	} {
		asksNot(t, api.ErrWant, marked(bare("WITHIN", where+" WITHIN"), "WITHIN"))
	}
	asksNot(t, api.ErrChar, bare("WITHIN", "WHERE any { 1@; 2 } WITHIN"))
}

func TestConditionsKeepTheirOrder(t *testing.T) {
	asks(t, changed("WITHIN", `WHERE any { §W1, §E[k],§WTRUE,§E[ l],§E[k], §W("k"),§W((-(2)))} WITHIN`), with(func(q *api.Query) {
		q.Equiv, q.Where = []string{"k", "l", "k"}, []api.Expr{number(1), truth(true), text("k"), neg(number(2))}
	}))
	// How many there are is not asked here.
	asks(t, changed("WITHIN", "WHERE any {§W7"+strings.Repeat(",§E[k],§W7", 100)+"} WITHIN"), with(func(q *api.Query) {
		q.Equiv, q.Where = slices.Repeat([]string{"k"}, 100), slices.Repeat([]api.Expr{number(7)}, 101)
	}))
}

func TestPart(t *testing.T) {
	asks(t, changed("WITHIN", "PARTITION BY §Pby WITHIN"), with(func(q *api.Query) { q.Part = "by" }))
	for _, part := range []string{"PARTITION", "PARTITION @k", "PARTITION BY", "PARTITION BY @1", "PARTITION BY @[k]", "PARTITION BY k@, l", "PARTITION BY k @l", "PARTITION BY a@.k", "PARTITION BY k @PARTITION BY k", `PARTITION BY @"k"`, "PARTITION @by k", `PARTITION @"BY" k`, "@BY k", "@k"} {
		asksNot(t, api.ErrWant, marked(bare("WITHIN", part+" WITHIN"), "WITHIN"))
	}
}

func TestWithin(t *testing.T) {
	for span, n := range map[string]int64{"0": 0, "1": 1, "4611686018427387904": api.MaxTime, "4611686018427387905": api.MaxTime + 1, "9223372036854775807": math.MaxInt64} {
		asks(t, changed("5", span), with(func(q *api.Query) { q.Within = n }))
	}
	asksNot(t, api.ErrLit, bare("5", "@9223372036854775808"), bare("5", "@05"))
	for _, span := range []string{"", "@-5", "@(5)", "@+5", "@a", `@"5"`, "5 @5", "5 @+ 5", "@TRUE", "@a.x", "5@,", "5@."} {
		asksNot(t, api.ErrWant, marked(bare("5", span), "RETURN"))
	}
	asksNot(t, api.ErrWant, bare("WITHIN", "@within"), bare("WITHIN 5", "@5"), bare("WITHIN", "@RETURN"))
}

func TestOutput(t *testing.T) {
	for _, name := range []string{"Up", "any", "x", "Within"} {
		asks(t, changed("(§Ix", "§O"+name+" ( §Ix"), with(func(q *api.Query) { q.Out = name }))
	}
	for _, out := range []string{"Up @Up(x", "Up@,(x", "@1(x", `@"Up"(x`, "@[Up](x", "(@(x", "Up(@(x", "Up@[x", "@{x", "x @=", "@!(x", "Up@.(x", "Up @= (x"} {
		asksNot(t, api.ErrWant, bare("(x", out))
	}
	asksNot(t, api.ErrWant, bare("RETURN (", "@("), bare("RETURN", "@Return"), bare("RETURN", "RETURN @RETURN"))
}

func TestItems(t *testing.T) {
	asks(t, changed("§Ix = a.v", `§Ix=1 ,§Itime = (x.x=","),§Ix = FALSE`), with(func(q *api.Query) {
		q.Items = []api.Item{{Name: "x", Expr: number(1)}, {Name: "time", Expr: bin(api.OEq, ref("x", api.AtOne, "x"), text(","))}, {Name: "x", Expr: truth(false)}}
	}))
	asks(t, changed("a.v", "a.v"+strings.Repeat(",§Ix = a.v", 300)), with(func(q *api.Query) { q.Items = slices.Repeat(q.Items, 301) }))
	for _, items := range []string{"@)", "x@)", "x =@)", "x = 1,@)", "@, x = 1)", "x = 1,@, y = 1)", "x = 1 @y = 1)", "x = 1 = 2 @= 3)", "@1 = 1)", "a@.v)", "x =@= 1)", "x @!= 1)", "x @> 1)", "x @1)", "x = @[k])", "x = y@)", "@(x = 1))", "x = (1)@", `@"x" = 1)`, "x@, y)", "x = @{1})", "x = 1@})", "x = 1@])", "x = 1@", "x = 1)@)", "x@[i] = 1)"} {
		asksNot(t, api.ErrWant, bare("x = a.v)", items))
	}
	asksNot(t, api.ErrChar, bare("a.v", "1@; y = 1"))
}

func TestQueryEnds(t *testing.T) {
	whole := bare("", "")
	for _, behind := range []string{" @1", " @x", "@)", "@(", "@,", " @WITHIN 5", " @WHERE any", " @" + whole, "@.", `@"s"`, "@[i]", " @AND", " @-"} {
		asksNot(t, api.ErrWant, whole+behind)
	}
	asks(t, simple+" \n\t\r-- a comment )", simpleQuery())
	asksNot(t, api.ErrChar, whole+" @;")
	// Every text that ends too early is told at its end.
	toks := strings.Fields("PATTERN SEQ ( A + b [ ] , ! ( B n ) , C c ) PARTITION BY k WHERE next { [ id ] , b [ i ] . v > b [ i - 1 ] . v , NOT ( count ( b [ .. i - 1 ] ) = - 1 ) } WITHIN 0 RETURN Out ( n = sum ( b . v ) * 2 , s = TRUE )")
	for i := range toks {
		early := strings.Join(toks[:i], " ")
		asksNot(t, api.ErrWant, early+"@", early+" \n@")
	}
	if _, _, at, err := parse.Query(strings.Join(toks, " ")); at != 0 || err != api.OK {
		t.Errorf("P7.1: the whole: %d, %d", at, err)
	}
}

// TestNames puts all kinds of words at each place of a name, a # below.
func TestNames(t *testing.T) {
	const places = "PATTERN SEQ(# v, T #, #+ v[], T+ #[], !(# v), !(T #)) PARTITION BY # WHERE any { [#], 1 + #.x, v.#, 1 + #[i].x, v[last].#, count(#), sum(#.x), max(v.#), count(#[..i-1]), min(#[..i-1].x), sum(v[..i-1].#) } WITHIN 1 RETURN #(# = 1, # = #.#)"
	pieces := strings.Split(places, "#")
	for i := range len(pieces) - 1 {
		ahead, behind := strings.Join(pieces[:i+1], "n"), strings.Join(pieces[i+1:], "n")
		for _, name := range append(softWords(), "n", "_", "Pattern", "seq", "within", "time", strings.Repeat("n", 32)) {
			if _, _, at, err := parse.Query(ahead + name + behind); at != 0 || err != api.OK {
				t.Errorf("P7.1: Query(%q) = %d, %d", ahead+name+behind, at, err)
			}
		}
		begins := strings.HasSuffix(ahead, "+ ") && !strings.HasSuffix(ahead, "T+ ") || strings.HasSuffix(ahead, "n = ")
		for _, word := range append(hardWords(), "7", `"n"`, "*", "=", "]", "}", ",") {
			if begins && (beginsExpr(word) && word != "NOT" || word == "7" || word == `"n"` || word == "NOT" && strings.HasSuffix(ahead, "= ")) {
				continue // an expression may begin so
			}
			asksNot(t, api.ErrWant, ahead+"@"+word+behind)
		}
		asksNot(t, api.ErrLit, ahead+"@"+strings.Repeat("n", 33)+behind)
	}
}

// TestQuotedWords sees that a string with the text of a word or a sign is not taken for it, nor a word in other letters.
func TestQuotedWords(t *testing.T) {
	whole, _ := spotted(full)
	for _, word := range []string{"PATTERN", "SEQ", "PARTITION", "BY", "WHERE", "WITHIN", "RETURN", "next", "(", ")", "{", "}", ",", "!", "+", "[", "]", "="} {
		ahead, behind, _ := strings.Cut(whole, word)
		asksNot(t, api.ErrWant, ahead+`@"`+word+`"`+behind)
		if upper := strings.ToUpper(word); upper != strings.ToLower(word) {
			other := strings.ToLower(word)
			if other == word {
				other = upper
			}
			asksNot(t, api.ErrWant, ahead+"@"+other+behind)
		}
	}
}

func TestScanIsAskedFirst(t *testing.T) {
	whole := bare("", "")
	asksNot(t, api.ErrLong, "@"+strings.Repeat("x", 4097), "@"+strings.Repeat(" ", 4097), "@"+whole+strings.Repeat(" ", 4097-len(whole)))
	asks(t, simple+strings.Repeat(" ", 4096-len(whole)), simpleQuery())
	asksNot(t, api.ErrChar, "no query @&", "@\x00", "@\xff\xfe", bare("a.v", strings.Repeat("- ", 40)+"1")+" @é")
	asksNot(t, api.ErrLit, "no query @01", "no query @"+strings.Repeat("w", 33))
	asksNot(t, api.ErrOpen, `no query @"\x0`)
}

func TestQueryBounds(t *testing.T) {
	deep, long := strings.Repeat("- ", 32)+"1", wide(129)
	for _, over := range []struct {
		fault api.Errno
		text  string
	}{{api.ErrDeep, deep}, {api.ErrLong, long}, {api.ErrDeep, "((" + deep + "))"}, {api.ErrLong, "(" + long + ")"}, {api.ErrLong, strings.Repeat("- ", 300) + "1"}} {
		// # is such an expression; it is told as soon as it has ended,
		for _, place := range []string{
			"WHERE any { @# } WITHIN 5 RETURN (x = 1)", "WHERE any { @#, 1 2", "WHERE any { [k], 1 = 1, @# } ..", "WHERE any { @# # }", "WHERE any { @# WITHIN", "WHERE any { @# [k]", "WHERE any { @# )", "WHERE any { @#",
			"WITHIN 5 RETURN (x = @#)", "WITHIN 5 RETURN (x = 1, y = @#, y = x)", "WITHIN 5 RETURN (x = @# x", "WITHIN 5 RETURN (x = @#", "WITHIN 5 RETURN (x =--\n@#}",
		} {
			asksNot(t, over.fault, "PATTERN SEQ(A a) "+strings.ReplaceAll(place, "#", over.text))
		}
		// behind a fault ahead of it, and behind one that comes while it goes on.
		for _, place := range []string{
			"@) WHERE any { # }", "WHERE any { 1 @2, # }", "WHERE any { @, # }", "WITHIN 5 RETURN (x@, y = #)",
			"WHERE any { # AND @}", "WHERE any { # * @WITHIN", "WITHIN 5 RETURN (x = # + @)", "WITHIN 5 RETURN (x = (# @1)", "WITHIN 5 RETURN (x = (#@",
		} {
			asksNot(t, api.ErrWant, "PATTERN SEQ(A a) "+strings.ReplaceAll(place, "#", over.text))
		}
	}
	// Of two, the one that ends first.
	asksNot(t, api.ErrDeep, "PATTERN SEQ(A a) WHERE any { 1, @"+deep+", "+long+" } ..")
	asksNot(t, api.ErrLong, "PATTERN SEQ(A a) WHERE any { 1, @"+long+", "+deep+" } ..", "PATTERN SEQ(A a) WHERE any { [k], @"+long+" } WITHIN 5 RETURN (x = "+deep+")")
	// Each has a count of its own.
	most := "-" + wide(128)
	if q, _, at, err := parse.Query("PATTERN SEQ(A a) WHERE any { " + most + ", " + most + " } WITHIN 5 RETURN (x = " + most + ", y = " + strings.Repeat("- ", 31) + "1)"); len(q.Where) != 2 || len(q.Items) != 2 || at != 0 || err != api.OK {
		t.Errorf("P7.1: expressions of 256 nodes, and of the depth 32: %d, %d", at, err)
	}
}
