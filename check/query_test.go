package check_test

import (
	"fmt"
	"math"
	"slices"
	"strconv"
	"strings"
	"testing"

	"refrain/api"
	"refrain/check"
	"refrain/parse"
)

// declared are the types of the chapter's examples.
func declared() []api.Type {
	return []api.Type{
		{Name: "Trade", Attrs: []api.Attr{{Name: "sym", Kind: api.KStr}, {Name: "price", Kind: api.KInt}, {Name: "live", Kind: api.KBool}}},
		{Name: "Note", Attrs: []api.Attr{{Name: "sym", Kind: api.KStr}, {Name: "text", Kind: api.KStr}}},
		{Name: "Pair", Attrs: []api.Attr{{Name: "a", Kind: api.KInt}, {Name: "b", Kind: api.KStr}}},
	}
}

// with gives the declared types, and others behind them.
func with(more ...api.Type) []api.Type { return append(declared(), more...) }

// read gives the tree of a query's text; without a WITHIN it is one of 5, without a RETURN one that answers a number.
func read(t *testing.T, text string) api.Query {
	t.Helper()
	ahead, output, _ := strings.Cut(text, " RETURN ")
	if !strings.Contains(text, " WITHIN ") {
		ahead += " WITHIN 5"
	}
	if output == "" {
		output = "(x = 1)"
	}
	q, _, at, err := parse.Query("PATTERN " + ahead + " RETURN " + output)
	if err != api.OK {
		t.Fatalf("no query: %q: %d at %d", text, err, at)
	}
	return q
}

// expr gives the tree of an expression's text.
func expr(text string) api.Expr {
	e, at, err := parse.Expr(text)
	if err != api.OK {
		panic(fmt.Sprintf("no expression: %q: %d at %d", text, err, at))
	}
	return e
}

// short tells a thing in not too many bytes.
func short(thing any) string { return fmt.Sprintf("%.400s", fmt.Sprintf("%+v", thing)) }

// in gives a fault.
func in(part, num int, err api.Errno) api.Fault { return api.Fault{Err: err, Part: part, Num: num} }

// none is no fault.
func none() api.Fault { return api.Fault{} }

// told holds Query against what it is to answer.
func told(t *testing.T, q api.Query, types []api.Type, want api.Fault) {
	t.Helper()
	if got := check.Query(q, types...); got != want {
		t.Errorf("P8.4: Query(%s) = %+v, want %+v", short(q), got, want)
	}
}

// tells does so with a query's text, by the declared types.
func tells(t *testing.T, text string, want api.Fault) {
	t.Helper()
	if got := check.Query(read(t, text), declared()...); got != want {
		t.Errorf("P8.4: Query(%s) = %+v, want %+v", text, got, want)
	}
}

func TestQueryExamples(t *testing.T) {
	tells(t, "SEQ(Trade a, Trade+ b[], !(Note n), Trade c) WHERE any { [sym], b[i].price > a.price, n.sym = a.sym, c.price > b[last].price } WITHIN 5 RETURN (x = count(b))", none())
	told(t, api.Query{}, declared(), in(api.InComps, 0, api.ErrLong))
	tells(t, "SEQ(Trade a, Nope b)", in(api.InComps, 1, api.ErrType))
	tells(t, "SEQ(Trade a, Trade a)", in(api.InComps, 1, api.ErrVar))
	q := read(t, "SEQ(Trade a)")
	q.Comps[0].Var = "SEQ"
	told(t, q, declared(), in(api.InComps, 0, api.ErrVar))
	tells(t, "SEQ(!(Note n), Trade a)", in(api.InComps, 0, api.ErrNeg))
	tells(t, "SEQ(Trade a, !(Note n))", in(api.InComps, 1, api.ErrNeg))
	for _, attr := range []string{"price", "time"} {
		tells(t, "SEQ(Trade a, Note n) PARTITION BY "+attr, in(api.InPart, 0, api.ErrAttr))
	}
	tells(t, "SEQ(Trade a, Note n) WHERE any { [sym], [sym] }", in(api.InEquiv, 1, api.ErrEquiv))
	tells(t, "SEQ(Trade a) WHERE any { a.live, a.price }", in(api.InWhere, 1, api.ErrBool))
	for cond, err := range map[string]api.Errno{"a.price + a.sym > 1": api.ErrKind, "a[i].price > 1": api.ErrUse, "z.price > 1": api.ErrVar, "a.cost > 1": api.ErrAttr} {
		tells(t, "SEQ(Trade a) WHERE any { "+cond+" }", in(api.InWhere, 0, err))
	}
	for _, cond := range []string{"b[i].price > a[last].price", "a[i].price > a[first].price"} {
		tells(t, "SEQ(Trade+ a[], Trade+ b[], Trade c) WHERE any { "+cond+" }", none())
	}
	for _, cond := range []string{"a[i].price = b[i].price", "a[i].price > c.price", "a[i].price > a[last].price"} {
		tells(t, "SEQ(Trade+ a[], Trade+ b[], Trade c) WHERE any { "+cond+" }", in(api.InWhere, 0, api.ErrMix))
	}
	tells(t, "SEQ(Trade a, !(Note n), Trade c) WHERE any { n.sym = c.sym }", in(api.InWhere, 0, api.ErrMix))
	tells(t, "SEQ(Trade a, !(Note n), Trade c) WHERE any { n.sym = a.sym }", none())
	q = read(t, "SEQ(Trade a)")
	q.Within = -1
	told(t, q, declared(), in(api.InWithin, 0, api.ErrSpan))
	tells(t, "SEQ(Trade a) RETURN Nope(x = 1)", in(api.InOut, 0, api.ErrType))
	tells(t, "SEQ(Trade a) RETURN (x = 1, x = 2)", in(api.InItems, 1, api.ErrDup))
	q = read(t, "SEQ(Trade a)")
	q.Items[0].Name = "INT"
	told(t, q, declared(), in(api.InItems, 0, api.ErrName))
	q.Items = nil
	told(t, q, declared(), in(api.InItems, 0, api.ErrLong))
	tells(t, "SEQ(Trade a, !(Note n), Trade c) RETURN (x = n.sym)", in(api.InItems, 0, api.ErrMix))
	tells(t, "SEQ(Trade a) RETURN Pair(a = a.price, b = a.sym)", none())
	tells(t, "SEQ(Trade a) RETURN Pair(a = a.price)", in(api.InItems, 1, api.ErrOut))
	tells(t, "SEQ(Trade a) RETURN Pair(a = a.sym, b = a.sym)", in(api.InItems, 0, api.ErrOut))
	tells(t, `SEQ(Trade a) RETURN Pair(a = 1, b = "", c = 1)`, in(api.InItems, 2, api.ErrOut))
}

// noNames are texts that are no names.
func noNames() []string {
	return []string{"", "9", "9a", "a b", " a", "a.b", "é", "a\x00", "SEQ", "AND", "INT", "TRUE", strings.Repeat("w", 33), strings.Repeat("w", 1<<20)}
}

// comps gives so many components, of the variables v0, v1 and so on.
func comps(count int) []api.Comp {
	var l []api.Comp
	for i := range count {
		l = append(l, api.Comp{Type: "Trade", Var: "v" + strconv.Itoa(i)})
	}
	return l
}

func TestComponents(t *testing.T) {
	q := read(t, "SEQ(Trade a)")
	hold := func(want api.Fault, comps ...api.Comp) {
		t.Helper()
		q.Comps = comps
		told(t, q, declared(), want)
	}
	for count := range 8 {
		hold(none(), comps(count+1)...)
	}
	hold(in(api.InComps, 0, api.ErrLong))
	for _, count := range []int{9, 10, 1000} {
		hold(in(api.InComps, 8, api.ErrLong), comps(count)...)
		// How many there are is looked at ahead of what they are.
		hold(in(api.InComps, 8, api.ErrLong), make([]api.Comp, count)...)
	}
	good, neg := api.Comp{Type: "Trade", Var: "a"}, api.Comp{Neg: true, Type: "Note", Var: "n"}
	for name, want := range map[string]api.Errno{"": api.ErrType, "trade": api.ErrType, "Trade ": api.ErrType, "Nope": api.ErrType, "Note": api.OK} {
		fault := in(api.InComps, 1, want)
		if want == api.OK {
			fault = none()
		}
		hold(fault, good, api.Comp{Type: name, Var: "b"}, api.Comp{Type: "Trade", Var: "c"})
		hold(fault, good, api.Comp{Plus: true, Type: name, Var: "b"}, api.Comp{Type: "Trade", Var: "c"})
		hold(fault, good, api.Comp{Neg: true, Type: name, Var: "b"}, api.Comp{Type: "Trade", Var: "c"})
	}
	for _, name := range noNames() {
		hold(in(api.InComps, 0, api.ErrVar), api.Comp{Type: "Trade", Var: name}, api.Comp{Type: "Trade", Var: "a"})
		hold(in(api.InComps, 1, api.ErrVar), good, api.Comp{Neg: true, Type: "Trade", Var: name}, neg)
		hold(in(api.InComps, 2, api.ErrVar), good, neg, api.Comp{Plus: true, Type: "Trade", Var: name})
		// The type ahead of the variable, both at once ahead of either.
		hold(in(api.InComps, 0, api.ErrType), api.Comp{Type: "Nope", Var: name})
		hold(in(api.InComps, 0, api.ErrTree), api.Comp{Neg: true, Plus: true, Type: "Nope", Var: name})
	}
	for _, name := range []string{"any", "i", "first", "time", "sum", "Trade", strings.Repeat("w", 32)} {
		hold(none(), good, api.Comp{Type: "Trade", Var: name})
	}
	hold(in(api.InComps, 3, api.ErrVar), comps(2)[0], neg, comps(2)[1], neg)
	hold(in(api.InComps, 2, api.ErrVar), good, neg, good)
	hold(in(api.InComps, 2, api.ErrVar), good, comps(1)[0], good, good)
	hold(in(api.InComps, 2, api.ErrTree), good, neg, api.Comp{Neg: true, Plus: true, Type: "Trade", Var: "c"})
}

// TestNegationsAtTheEnds asks for them behind all else that may be wrong with components.
func TestNegationsAtTheEnds(t *testing.T) {
	tells(t, "SEQ(!(Note n))", in(api.InComps, 0, api.ErrNeg))
	tells(t, "SEQ(!(Note n), !(Note m))", in(api.InComps, 0, api.ErrNeg))
	tells(t, "SEQ(!(Note n), Trade a, !(Note m))", in(api.InComps, 0, api.ErrNeg))
	tells(t, "SEQ(Trade a, !(Note n), !(Note m))", in(api.InComps, 2, api.ErrNeg))
	tells(t, "SEQ(Trade a, !(Note n), !(Note m), Trade+ b[])", none())
	tells(t, "SEQ(Trade+ a[], !(Note n), Trade b, !(Note m), Trade+ c[])", none())
	tells(t, "SEQ(!(Note n), Nope a, !(Note m))", in(api.InComps, 1, api.ErrType))
	tells(t, "SEQ(!(Note n), Trade a, !(Note a))", in(api.InComps, 2, api.ErrVar))
}

// odd are types with attributes of kinds that are none, and with names twice, of which the first one counts.
func odd() []api.Type {
	return []api.Type{
		{Name: "Odd", Attrs: []api.Attr{{Name: "sym", Kind: 4}, {Name: "price"}, {Name: "live", Kind: -1}, {Name: "far", Kind: math.MaxInt}, {Name: "low", Kind: math.MinInt}, {Name: "ok", Kind: api.KInt}}},
		{Name: "Twin", Attrs: []api.Attr{{Name: "ok", Kind: api.KInt}, {Name: "ok", Kind: api.KStr}, {Name: "bad", Kind: 9}, {Name: "bad", Kind: api.KInt}}},
		{Name: "Twin", Attrs: []api.Attr{{Name: "ok", Kind: api.KBool}, {Name: "sym", Kind: api.KStr}}},
		{Name: "Trade", Attrs: []api.Attr{{Name: "ok", Kind: api.KInt}, {Name: "price", Kind: api.KStr}}},
		{Name: "Clock", Attrs: []api.Attr{{Name: "time", Kind: api.KStr}, {Name: "AND", Kind: api.KInt}, {Name: "", Kind: api.KInt}}},
		{Name: "", Attrs: []api.Attr{{Name: "x", Kind: api.KInt}}},
	}
}

// TestSharedAttributes asks for the attributes of PARTITION and of equivalences, for which the same holds.
func TestSharedAttributes(t *testing.T) {
	for _, c := range []struct {
		pattern, attr string
		err           api.Errno
	}{
		{"SEQ(Trade a)", "sym", api.OK},
		{"SEQ(Trade a)", "live", api.OK},
		{"SEQ(Trade a, Trade+ b[], !(Trade n), Trade c)", "price", api.OK},
		{"SEQ(Trade a, Note+ b[], !(Note n), Trade c)", "sym", api.OK},
		{"SEQ(Trade a)", "Sym", api.ErrAttr},
		{"SEQ(Trade a)", "time", api.ErrAttr},
		{"SEQ(Clock a)", "time", api.ErrAttr},
		{"SEQ(Odd a, Clock b)", "time", api.ErrAttr},
		{"SEQ(Note a, Trade b)", "price", api.ErrAttr},
		{"SEQ(Trade a, Trade b, Note c)", "price", api.ErrAttr},
		{"SEQ(Trade a, !(Note n), Trade b)", "price", api.ErrAttr},
		{"SEQ(Trade a, Twin b)", "sym", api.ErrAttr},
		{"SEQ(Trade a, Twin b)", "ok", api.ErrAttr},
		{"SEQ(Odd a)", "sym", api.ErrKind},
		{"SEQ(Odd a, Odd b)", "price", api.ErrKind},
		{"SEQ(Odd a)", "live", api.ErrKind},
		{"SEQ(Odd a)", "far", api.ErrKind},
		{"SEQ(Odd a)", "low", api.ErrKind},
		{"SEQ(Odd a, Twin b)", "ok", api.OK},
		{"SEQ(Twin a)", "bad", api.ErrKind},
		{"SEQ(Trade a, Odd b)", "sym", api.ErrKind},
		{"SEQ(Trade a, !(Odd n), Trade b)", "sym", api.ErrKind},
		{"SEQ(Pair p, Pair q, Trade r, Trade+ s[])", "a", api.ErrAttr},
		// Component by component: what is wrong with one further to the left counts.
		{"SEQ(Odd a, Pair b)", "sym", api.ErrKind},
		{"SEQ(Pair a, Odd b)", "sym", api.ErrAttr},
		{"SEQ(Trade a, Odd b, Pair c)", "sym", api.ErrKind},
		{"SEQ(Trade a, Pair b, Odd c)", "sym", api.ErrAttr},
	} {
		types := with(odd()...)
		part, equiv, behind := none(), none(), none()
		if c.err != api.OK {
			part, equiv, behind = in(api.InPart, 0, c.err), in(api.InEquiv, 0, c.err), in(api.InEquiv, 1, c.err)
		}
		told(t, read(t, c.pattern+" PARTITION BY "+c.attr), types, part)
		told(t, read(t, c.pattern+" WHERE next { ["+c.attr+"] }"), types, equiv)
		q := read(t, c.pattern+" WHERE strict { ["+c.attr+"], ["+c.attr+"], TRUE }")
		first := []api.Attr{{Name: "fine", Kind: api.KBool}}
		for i := range types {
			types[i].Attrs = append(first, types[i].Attrs...)
		}
		q.Equiv[0] = "fine"
		told(t, q, types, behind)
	}
	// Kinds that differ.
	types := with(api.Type{Name: "Other", Attrs: []api.Attr{{Name: "sym", Kind: api.KInt}, {Name: "live", Kind: api.KStr}}})
	for _, pattern := range []string{"SEQ(Trade a, Other b)", "SEQ(Other a, Trade b)", "SEQ(Trade a, Trade b, Other c)", "SEQ(Trade a, !(Other n), Trade b)"} {
		for _, attr := range []string{"sym", "live"} {
			told(t, read(t, pattern+" PARTITION BY "+attr), types, in(api.InPart, 0, api.ErrKind))
			told(t, read(t, pattern+" WHERE any { ["+attr+"] }"), types, in(api.InEquiv, 0, api.ErrKind))
		}
	}
	// A text that is no name is looked for like others.
	q := read(t, "SEQ(Clock a)")
	q.Part, q.Equiv = "AND", []string{"AND", ""}
	told(t, q, with(odd()...), none())
	q.Part, q.Equiv = "OR", []string{"OR"}
	told(t, q, with(odd()...), in(api.InPart, 0, api.ErrAttr))
	q.Part = ""
	told(t, q, with(odd()...), in(api.InEquiv, 0, api.ErrAttr))
}

// broad gives a type with so many attributes, n0, n1 and so on, and their names.
func broad(count int) (api.Type, []string) {
	kind := api.Type{Name: "Broad"}
	var names []string
	for i := range count {
		names = append(names, "n"+strconv.Itoa(i))
		kind.Attrs = append(kind.Attrs, api.Attr{Name: names[i], Kind: api.KBool})
	}
	return kind, names
}

func TestHowManyConditions(t *testing.T) {
	kind, names := broad(50)
	q := read(t, "SEQ(Broad a)")
	for equiv := range 50 {
		for _, where := range []int{0, 1, 31, 32, 33, 50, max(0, 32-equiv), max(0, 33-equiv)} {
			q.Equiv, q.Where = names[:equiv], slices.Repeat([]api.Expr{expr("a.n1")}, where)
			want := none()
			switch {
			case equiv > 32:
				want = in(api.InEquiv, 32, api.ErrLong)
			case equiv+where > 32:
				want = in(api.InWhere, 32-equiv, api.ErrLong)
			}
			told(t, q, []api.Type{kind}, want)
			if where > 0 { // what is wrong ahead of the 33rd counts first, what is wrong with it comes behind
				q.Where[where-1] = expr("a.nope")
				if equiv+where <= 32 {
					want = in(api.InWhere, where-1, api.ErrAttr)
				}
				told(t, q, []api.Type{kind}, want)
			}
		}
	}
	q.Where = nil
	for _, c := range []struct {
		at   int
		attr string
		want api.Fault
	}{{31, "n0", in(api.InEquiv, 31, api.ErrEquiv)}, {32, "n0", in(api.InEquiv, 32, api.ErrLong)}, {31, "time", in(api.InEquiv, 31, api.ErrAttr)}, {32, "time", in(api.InEquiv, 32, api.ErrLong)}, {33, "n0", in(api.InEquiv, 32, api.ErrLong)}} {
		q.Equiv = slices.Clone(names)
		q.Equiv[c.at] = c.attr
		told(t, q, []api.Type{kind}, c.want)
	}
	// The same stands ahead of it, though it is no attribute.
	q.Equiv = []string{"n1", "n2", "n1", "nope"}
	told(t, q, []api.Type{kind}, in(api.InEquiv, 2, api.ErrEquiv))
	q.Equiv = []string{"n1", "nope", "nope"}
	told(t, q, []api.Type{kind}, in(api.InEquiv, 1, api.ErrAttr))
}

func TestStrategies(t *testing.T) {
	for _, word := range []string{"any", "next", "strict"} {
		tells(t, "SEQ(Trade a) WHERE "+word+" { a.live }", none())
		tells(t, "SEQ(Trade a) WHERE "+word, none())
	}
	for _, strategy := range []int{math.MinInt, -1, 0, 4, 5, 1<<32 + 1, math.MaxInt} {
		q := read(t, "SEQ(Trade a) WHERE any { TRUE, a.price }")
		q.Strategy = strategy
		told(t, q, declared(), in(api.InWhere, 0, api.ErrTree))
	}
}

func TestConditions(t *testing.T) {
	pattern := "SEQ(Trade a, Trade+ b[], !(Note n), Trade c) WHERE any { [sym], "
	for _, cond := range []string{"TRUE", "a.live", "NOT c.live", "a.sym = c.sym", "a.live = c.live", "count(b) > 2 AND b[first].time < a.time + 5", "max(b.price) >= min(b.price) OR b[last].live", "n.text < a.sym", "b[i].price > b[i-1].price", "sum(b[..i-1].price) + b[i].price < 100", "1 = 2", `"" != "a"`} {
		tells(t, pattern+cond+" }", none())
		tells(t, pattern+"TRUE, "+cond+", "+cond+" }", none())
	}
	for cond, err := range map[string]api.Errno{
		"1": api.ErrBool, "a.price": api.ErrBool, "a.sym": api.ErrBool, `"TRUE"`: api.ErrBool, "b[i].price": api.ErrBool, "count(b)": api.ErrBool, "n.sym": api.ErrBool, "a.time": api.ErrBool,
		"NOT 1": api.ErrKind, "a.live AND 1": api.ErrKind, "a.live < c.live": api.ErrKind, "sum(b.sym) > 1": api.ErrKind,
		"a.nope": api.ErrAttr, "max(b.nope) > 1": api.ErrAttr, "n.price = 1": api.ErrAttr,
		"b.live": api.ErrUse, "a[last].live": api.ErrUse, "n[i].sym = n.sym": api.ErrUse, "count(n) = 1": api.ErrUse, "count(a) = 1": api.ErrUse,
		"z.live": api.ErrVar, "Trade.live": api.ErrVar, "count(z) = 1": api.ErrVar,
		"b[i].price > c.price": api.ErrMix, "n.sym = c.sym": api.ErrMix, "b[i].sym = n.sym": api.ErrMix,
		// A mixture counts ahead of the kind.
		"b[i].price + c.price": api.ErrMix,
	} {
		tells(t, pattern+cond+" }", in(api.InWhere, 0, err))
		tells(t, pattern+"TRUE, a.live, "+cond+", "+cond+" }", in(api.InWhere, 2, err))
	}
	q := read(t, pattern+"a.live, a.live, a.live }")
	for _, e := range noTrees() {
		q.Where[1] = e
		told(t, q, declared(), in(api.InWhere, 1, api.ErrTree))
		// Conditions are asked one after the other, whatever is wrong with each.
		q.Where[2] = expr("z.live")
		told(t, q, declared(), in(api.InWhere, 1, api.ErrTree))
		q.Where[0] = expr("a.price")
		told(t, q, declared(), in(api.InWhere, 0, api.ErrBool))
		q.Where[0], q.Where[2] = expr("a.live"), expr("a.live")
	}
}

func TestSpans(t *testing.T) {
	for within, err := range map[int64]api.Errno{0: api.OK, 1: api.OK, 1<<62 - 1: api.OK, 1 << 62: api.OK, -1: api.ErrSpan, 1<<62 + 1: api.ErrSpan, math.MinInt64: api.ErrSpan, math.MaxInt64: api.ErrSpan} {
		q := read(t, "SEQ(Trade a)")
		q.Within = within
		want := none()
		if err != api.OK {
			want = in(api.InWithin, 0, err)
		}
		told(t, q, declared(), want)
	}
	tells(t, "SEQ(Trade a) WITHIN 4611686018427387905", in(api.InWithin, 0, api.ErrSpan))
}

func TestItems(t *testing.T) {
	q := read(t, "SEQ(Trade a)")
	for count := range 40 {
		q.Items = nil
		for i := range count {
			q.Items = append(q.Items, api.Item{Name: "x" + strconv.Itoa(i), Expr: expr("a.price")})
		}
		switch {
		case count == 0:
			told(t, q, declared(), in(api.InItems, 0, api.ErrLong))
		case count > 16:
			told(t, q, declared(), in(api.InItems, 16, api.ErrLong))
			q.Items[0] = api.Item{}
			told(t, q, declared(), in(api.InItems, 16, api.ErrLong))
		default:
			told(t, q, declared(), none())
		}
	}
	for _, name := range noNames() {
		q.Items = []api.Item{{Name: "x", Expr: expr("1")}, {Name: name, Expr: expr("z.x")}, {Name: "x", Expr: expr("1")}}
		told(t, q, declared(), in(api.InItems, 1, api.ErrName))
	}
	for _, name := range []string{"time", "any", "i", "count", "Trade", "a", strings.Repeat("w", 32)} {
		tells(t, "SEQ(Trade a) RETURN (x = 1, "+name+" = a.time)", none())
	}
	tells(t, "SEQ(Trade a) RETURN (x = 1, y = 2, z = 3, y = z.x)", in(api.InItems, 3, api.ErrDup))
	tells(t, "SEQ(Trade a) RETURN (x = 1, y = a.nope, x = 3)", in(api.InItems, 1, api.ErrAttr))
	// An item may be of any kind.
	tells(t, "SEQ(Trade a, Trade+ b[]) RETURN (x = a.price, y = a.sym, z = a.live, n = count(b), m = max(b.price) - b[first].time, l = b[last].sym)", none())
	for item, err := range map[string]api.Errno{
		"a.sym + 1": api.ErrKind, "a.nope": api.ErrAttr, "b.sym": api.ErrUse, "n[first].sym": api.ErrUse, "z.sym": api.ErrVar,
		"b[i].sym": api.ErrMix, "b[i-1].sym": api.ErrMix, "count(b[..i-1])": api.ErrMix, "n.sym": api.ErrMix, "1 + 2 * max(b[..i-1].price)": api.ErrMix, "a.sym = n.sym": api.ErrMix,
	} {
		for _, out := range []string{"", "Pair"} { // what is wrong with the expression counts ahead of what the type wants
			tells(t, "SEQ(Trade a, Trade+ b[], !(Note n), Trade c) RETURN "+out+"(a = 1, b = "+item+")", in(api.InItems, 1, err))
		}
	}
	q = read(t, "SEQ(Trade a) RETURN (x = 1, y = 2)")
	for _, e := range noTrees() {
		q.Items[1].Expr = e
		told(t, q, declared(), in(api.InItems, 1, api.ErrTree))
	}
}

func TestOutputs(t *testing.T) {
	for _, c := range []struct {
		output string
		want   api.Fault
	}{
		{"Trade(sym = a.sym, price = 1, live = TRUE)", none()},
		{"Trade(sym = a.sym, price = a.time, live = a.price > 3)", none()},
		{"Trade(sym = a.sym, price = a.sym, live = TRUE)", in(api.InItems, 1, api.ErrOut)},
		{"Trade(sym = a.sym, price = 1, live = 1)", in(api.InItems, 2, api.ErrOut)},
		{"Trade(price = 1, sym = a.sym, live = TRUE)", in(api.InItems, 0, api.ErrOut)},
		{"Trade(Sym = a.sym, price = 1, live = TRUE)", in(api.InItems, 0, api.ErrOut)},
		{"Trade(sym = a.sym)", in(api.InItems, 1, api.ErrOut)},
		{"Trade(sym = a.sym, price = 1)", in(api.InItems, 2, api.ErrOut)},
		{"Trade(sym = a.sym, price = 1, live = TRUE, more = 1)", in(api.InItems, 3, api.ErrOut)},
		{"Trade(sym = a.sym, price = 1, live = TRUE, more = 1, more = 1)", in(api.InItems, 3, api.ErrOut)},
		{"Trade(sym = a.sym, price = 1, live = TRUE, sym = a.sym)", in(api.InItems, 3, api.ErrDup)},
		{"Trade(sym = a.sym, price = \"\", price = 1)", in(api.InItems, 1, api.ErrOut)},
		{"Tick(x = 1)", in(api.InItems, 0, api.ErrOut)},
		{"Odd(sym = 1)", in(api.InItems, 0, api.ErrOut)},
		{"Clock(time = \"\")", in(api.InItems, 1, api.ErrOut)},
		{"Twin(ok = 1, ok = \"\")", in(api.InItems, 1, api.ErrDup)},
		{"Twin(ok = TRUE)", in(api.InItems, 0, api.ErrOut)},
		{"Twin(ok = 1)", in(api.InItems, 1, api.ErrOut)},
		{"trade(sym = a.sym)", in(api.InOut, 0, api.ErrType)},
		{"Nope(x = z.x)", in(api.InOut, 0, api.ErrType)},
	} {
		told(t, read(t, "SEQ(Trade a) RETURN "+c.output), append(with(api.Type{Name: "Tick"}), odd()...), c.want)
	}
	// As many attributes as an output may have items, and more.
	for _, count := range []int{15, 16, 17, 300} {
		kind, names := broad(count)
		q := read(t, "SEQ(Trade a) RETURN Broad(x = 1)")
		q.Items = nil
		for _, name := range names[:min(count, 16)] {
			q.Items = append(q.Items, api.Item{Name: name, Expr: expr("a.live")})
		}
		want := none()
		if count > 16 {
			want = in(api.InItems, 16, api.ErrOut)
		}
		told(t, q, with(kind), want)
		q.Items[5].Expr = expr("a.price")
		told(t, q, with(kind), in(api.InItems, 5, api.ErrOut))
	}
	// A type without a name is none of an output that is no event.
	told(t, read(t, "SEQ(Trade a) RETURN (y = 1)"), append(odd()[5:], declared()...), none())
}

// spoilt is a way to spoil a query, and the fault that it has then.
type spoilt struct {
	fault api.Fault
	spoil func(q *api.Query)
}

// spoils are such ways, in the chapter's order. What one does, the others leave.
func spoils() []spoilt {
	var l []spoilt
	add := func(part, num int, err api.Errno, spoil func(q *api.Query)) {
		l = append(l, spoilt{in(part, num, err), spoil})
	}
	add(api.InComps, 8, api.ErrLong, func(q *api.Query) { q.Comps = append(q.Comps, comps(5)...) })
	add(api.InComps, 0, api.ErrTree, func(q *api.Query) { q.Comps[0].Neg, q.Comps[0].Plus = true, true })
	add(api.InComps, 1, api.ErrType, func(q *api.Query) { q.Comps[1].Type = "Nope" })
	add(api.InComps, 2, api.ErrVar, func(q *api.Query) { q.Comps[2].Var = "a" })
	add(api.InComps, 3, api.ErrNeg, func(q *api.Query) { q.Comps[3].Neg = true })
	add(api.InPart, 0, api.ErrAttr, func(q *api.Query) { q.Part = "time" })
	add(api.InEquiv, 0, api.ErrAttr, func(q *api.Query) { q.Equiv[0] = "nope" })
	add(api.InEquiv, 1, api.ErrEquiv, func(q *api.Query) { q.Equiv = append(q.Equiv, q.Equiv[0]) })
	add(api.InWhere, 0, api.ErrTree, func(q *api.Query) { q.Strategy = 0 })
	for i, cond := range []string{"", "z.live", "b.live", "a.nope", "a.live < TRUE", "c.live AND n.sym = a.sym", "a.sym"} {
		var e api.Expr
		if cond != "" {
			e = expr(cond)
		}
		add(api.InWhere, i, [...]api.Errno{api.ErrTree, api.ErrVar, api.ErrUse, api.ErrAttr, api.ErrKind, api.ErrMix, api.ErrBool}[i], func(q *api.Query) { q.Where[i] = e })
	}
	add(api.InWithin, 0, api.ErrSpan, func(q *api.Query) { q.Within = -1 })
	add(api.InOut, 0, api.ErrType, func(q *api.Query) { q.Out = "Nope" })
	add(api.InItems, 0, api.ErrName, func(q *api.Query) { q.Items[0].Name = "9" })
	add(api.InItems, 1, api.ErrDup, func(q *api.Query) { q.Items[1].Name = q.Items[0].Name })
	add(api.InItems, 2, api.ErrTree, func(q *api.Query) { q.Items[2].Expr = api.Expr{} })
	add(api.InItems, 3, api.ErrMix, func(q *api.Query) { q.Items[3].Expr = expr("n.sym") })
	add(api.InItems, 4, api.ErrKind, func(q *api.Query) { q.Items[4].Expr = expr("NOT 1") })
	add(api.InItems, 5, api.ErrOut, func(q *api.Query) { q.Items[5].Expr = expr("a.price") })
	return l
}

func TestTheFirstFaultCounts(t *testing.T) {
	kind, names := broad(6)
	whole := func() api.Query {
		q := read(t, "SEQ(Trade a, Trade+ b[], !(Note n), Trade c) WHERE any { [sym], "+strings.Repeat("a.live, ", 8)+"a.live } RETURN Broad(x = 1)")
		q.Items = nil
		for _, name := range names {
			q.Items = append(q.Items, api.Item{Name: name, Expr: expr("a.live")})
		}
		return q
	}
	told(t, whole(), with(kind), none())
	for i, first := range spoils() {
		q := whole()
		first.spoil(&q)
		told(t, q, with(kind), first.fault)
		for _, later := range spoils()[i+1:] {
			q := whole()
			// How long a list is may hang on the other one's doing, so both orders are tried.
			first.spoil(&q)
			later.spoil(&q)
			told(t, q, with(kind), first.fault)
			q = whole()
			later.spoil(&q)
			first.spoil(&q)
			told(t, q, with(kind), first.fault)
		}
	}
}
