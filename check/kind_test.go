package check_test

import (
	"slices"
	"strings"
	"testing"

	"refrain/api"
	"refrain/check"
	"refrain/tree"
)

// kind holds Kind against what it is to answer.
func kind(t *testing.T, e api.Expr, q api.Query, types []api.Type, want int, fault api.Errno) {
	t.Helper()
	if got, err := check.Kind(e, q, types...); got != want || err != fault {
		text, _ := tree.PrintExpr(e)
		t.Errorf("P8.1, P8.2: Kind(%s %s, %s) = %d, %d, want %d, %d", text, short(e), short(q.Comps), got, err, want, fault)
	}
}

// pattern gives components of all sorts, those of odd types too.
func pattern(t *testing.T) (api.Query, []api.Type) {
	t.Helper()
	return read(t, "SEQ(Trade a, Trade+ b[], !(Note n), Trade c, Odd o, Odd+ p[], Clock k, Twin w, Nope u, Nope+ v[])"), with(odd()...)
}

func TestKindExamples(t *testing.T) {
	q := read(t, "SEQ(Trade a, Trade+ b[], !(Note n), Trade c)")
	for _, text := range []string{"count(b) > 1", "sum(b.price) < max(b.price)", "b[first].sym = a.sym"} {
		kind(t, expr(text), q, declared(), api.KBool, api.OK)
	}
	kind(t, long(), q, declared(), api.KBool, api.OK)
	kind(t, expr("b.price"), q, declared(), 0, api.ErrUse)
	kind(t, expr("b[i].price * 2"), q, declared(), api.KInt, api.OK)
}

// long gives 127 nodes, the text of which is too long.
func long() api.Expr {
	e := api.Expr{Kind: api.EBin, Op: api.OEq, Kids: []api.Expr{expr("a.sym"), {Kind: api.ELit, Val: api.Value{Kind: api.KStr, Str: strings.Repeat("s", 256)}}}}
	for range 5 {
		e = api.Expr{Kind: api.EBin, Op: api.OAnd, Kids: []api.Expr{e, e}}
	}
	return e
}

// leaf is an expression without operations, its kind and its fault.
type leaf struct {
	text  string
	kind  int
	fault api.Errno
}

// leaves are some of every sort that the chapter tells.
func leaves() []leaf {
	l := []leaf{{"0", api.KInt, 0}, {"9223372036854775807", api.KInt, 0}, {`""`, api.KStr, 0}, {`"a.x"`, api.KStr, 0}, {"TRUE", api.KBool, 0}, {"FALSE", api.KBool, 0}}
	// References to single and negated ones.
	l = append(l, leaf{"a.price", api.KInt, 0}, leaf{"a.sym", api.KStr, 0}, leaf{"c.live", api.KBool, 0}, leaf{"n.text", api.KStr, 0}, leaf{"n.price", 0, api.ErrAttr}, leaf{"a.Price", 0, api.ErrAttr}, leaf{"a.a", 0, api.ErrAttr}, leaf{"A.price", 0, api.ErrVar}, leaf{"z.price", 0, api.ErrVar}, leaf{"z.nope", 0, api.ErrVar}, leaf{"u.price", 0, api.ErrType}, leaf{"u.time", 0, api.ErrType})
	l = append(l, leaf{"o.sym", 0, api.ErrKind}, leaf{"o.price", 0, api.ErrKind}, leaf{"o.live", 0, api.ErrKind}, leaf{"o.far", 0, api.ErrKind}, leaf{"o.low", 0, api.ErrKind}, leaf{"o.ok", api.KInt, 0}, leaf{"o.nope", 0, api.ErrAttr}, leaf{"w.ok", api.KInt, 0}, leaf{"w.bad", 0, api.ErrKind}, leaf{"w.sym", 0, api.ErrAttr})
	for _, v := range []string{"a", "n", "c", "o", "k", "w"} { // an attribute of the name counts for nothing
		l = append(l, leaf{v + ".time", api.KInt, 0})
	}
	for _, at := range []string{"[i]", "[i-1]", "[first]", "[last]"} {
		l = append(l, leaf{"b" + at + ".price", api.KInt, 0}, leaf{"b" + at + ".sym", api.KStr, 0}, leaf{"b" + at + ".live", api.KBool, 0}, leaf{"b" + at + ".time", api.KInt, 0}, leaf{"b" + at + ".nope", 0, api.ErrAttr}, leaf{"p" + at + ".sym", 0, api.ErrKind}, leaf{"p" + at + ".ok", api.KInt, 0}, leaf{"p" + at + ".time", api.KInt, 0})
		l = append(l, leaf{"a" + at + ".price", 0, api.ErrUse}, leaf{"n" + at + ".nope", 0, api.ErrUse}, leaf{"c" + at + ".time", 0, api.ErrUse}, leaf{"o" + at + ".sym", 0, api.ErrUse}, leaf{"z" + at + ".price", 0, api.ErrVar}, leaf{"u" + at + ".price", 0, api.ErrType}, leaf{"v" + at + ".price", 0, api.ErrType})
	}
	l = append(l, leaf{"b.price", 0, api.ErrUse}, leaf{"b.nope", 0, api.ErrUse}, leaf{"b.time", 0, api.ErrUse}, leaf{"p.sym", 0, api.ErrUse}, leaf{"v.x", 0, api.ErrType})
	for _, before := range []string{"", "[..i-1]"} {
		l = append(l, leaf{"count(b" + before + ")", api.KInt, 0}, leaf{"count(p" + before + ")", api.KInt, 0}, leaf{"count(a" + before + ")", 0, api.ErrUse}, leaf{"count(n" + before + ")", 0, api.ErrUse}, leaf{"count(z" + before + ")", 0, api.ErrVar}, leaf{"count(u" + before + ")", 0, api.ErrType}, leaf{"count(v" + before + ")", 0, api.ErrType})
		for _, function := range []string{"sum", "min", "max"} {
			of := func(v, attr string) string { return function + "(" + v + before + "." + attr + ")" }
			l = append(l, leaf{of("b", "price"), api.KInt, 0}, leaf{of("b", "time"), api.KInt, 0}, leaf{of("p", "time"), api.KInt, 0}, leaf{of("p", "ok"), api.KInt, 0}, leaf{of("b", "sym"), 0, api.ErrKind}, leaf{of("b", "live"), 0, api.ErrKind}, leaf{of("p", "sym"), 0, api.ErrKind}, leaf{of("p", "price"), 0, api.ErrKind}, leaf{of("b", "nope"), 0, api.ErrAttr})
			l = append(l, leaf{of("a", "price"), 0, api.ErrUse}, leaf{of("a", "nope"), 0, api.ErrUse}, leaf{of("n", "time"), 0, api.ErrUse}, leaf{of("z", "price"), 0, api.ErrVar}, leaf{of("u", "time"), 0, api.ErrType}, leaf{of("v", "sym"), 0, api.ErrType})
		}
	}
	return l
}

// fits tells the kind of an operation on such kinds: 0, if it wants others.
func fits(sign string, kinds ...int) int {
	const n, s, b = api.KInt, api.KStr, api.KBool
	for _, row := range []struct {
		signs string
		sides []int
		is    int
	}{
		{"+ - *", []int{n, n}, n},
		{"= != < <= > >=", []int{n, n}, b},
		{"= != < <= > >=", []int{s, s}, b},
		{"= != AND OR", []int{b, b}, b},
		{"-", []int{n}, n},
		{"NOT", []int{b}, b},
	} {
		if slices.Contains(strings.Fields(row.signs), sign) && slices.Equal(row.sides, kinds) {
			return row.is
		}
	}
	return 0
}

// wanted tells what Kind is to answer of an operation on some sides.
func wanted(sign string, sides ...leaf) (int, api.Errno) {
	var kinds []int
	for _, side := range sides {
		if side.fault != api.OK {
			return 0, side.fault
		}
		kinds = append(kinds, side.kind)
	}
	if is := fits(sign, kinds...); is != 0 {
		return is, api.OK
	}
	return 0, api.ErrKind
}

// signs are those of the operations on two.
func signs() []string { return strings.Fields("+ - * = != < <= > >= AND OR") }

func TestLeaves(t *testing.T) {
	q, types := pattern(t)
	for _, l := range leaves() {
		kind(t, expr(l.text), q, types, l.kind, l.fault)
		for sign, blank := range map[string]string{"-": "- ", "NOT": "NOT "} {
			is, fault := wanted(sign, l)
			kind(t, expr(blank+l.text), q, types, is, fault)
			if fault == api.OK {
				kind(t, expr(blank+blank+l.text), q, types, is, fault)
			}
		}
	}
}

// few are leaves of the three kinds and of all faults.
func few() []leaf {
	return []leaf{{"a.price", api.KInt, 0}, {`"s"`, api.KStr, 0}, {"b[i].live", api.KBool, 0}, {"z.x", 0, api.ErrVar}, {"u.x", 0, api.ErrType}, {"b.price", 0, api.ErrUse}, {"n.nope", 0, api.ErrAttr}, {"o.sym", 0, api.ErrKind}, {"count(b)", api.KInt, 0}, {"max(b.sym)", 0, api.ErrKind}}
}

// TestOperations asks for all operations on two of them, and on three, in both forms.
func TestOperations(t *testing.T) {
	q, types := pattern(t)
	for _, one := range few() {
		for _, two := range few() {
			for _, sign := range signs() {
				text := "(" + one.text + " " + sign + " " + two.text + ")"
				is, fault := wanted(sign, one, two)
				kind(t, expr(text), q, types, is, fault)
				both := leaf{text, is, fault}
				for _, three := range few() {
					for _, other := range []string{"+", "=", "<", "OR"} {
						is, fault := wanted(other, both, three)
						kind(t, expr(text+" "+other+" "+three.text), q, types, is, fault)
						is, fault = wanted(other, three, both)
						kind(t, expr("("+three.text+") "+other+" "+text), q, types, is, fault)
					}
				}
			}
		}
	}
}

// TestKindLooksAtComponentsAlone asks over queries that have faults of all sorts.
func TestKindLooksAtComponentsAlone(t *testing.T) {
	single := api.Comp{Type: "Trade", Var: "a"}
	over := func(text string, is int, fault api.Errno, comps ...api.Comp) {
		t.Helper()
		kind(t, expr(text), api.Query{Comps: comps}, declared(), is, fault)
		q := api.Query{Comps: comps, Part: "9", Strategy: 9, Equiv: []string{"", ""}, Where: make([]api.Expr, 99), Within: -1, Out: "9", Items: make([]api.Item, 99)}
		kind(t, expr(text), q, declared(), is, fault)
	}
	over("a.price", 0, api.ErrVar)
	over("1 = 1", api.KBool, api.OK)
	over("a.price", api.KInt, api.OK, single)
	// Of several components with the variable the first one counts.
	over("a.price", api.KInt, api.OK, single, api.Comp{Plus: true, Type: "Note", Var: "a"})
	over("a[i].price", 0, api.ErrUse, single, api.Comp{Plus: true, Type: "Trade", Var: "a"})
	over("count(a)", api.KInt, api.OK, api.Comp{Plus: true, Type: "Trade", Var: "a"}, single)
	over("a.text", 0, api.ErrAttr, single, api.Comp{Type: "Note", Var: "a"})
	over("a.text", api.KStr, api.OK, api.Comp{Type: "Note", Var: "a"}, single)
	over("a.price", 0, api.ErrType, api.Comp{Type: "Nope", Var: "a"}, single)
	// What is negated is not many.
	over("a.price", api.KInt, api.OK, api.Comp{Neg: true, Plus: true, Type: "Trade", Var: "a"})
	over("a[last].price", 0, api.ErrUse, api.Comp{Neg: true, Plus: true, Type: "Trade", Var: "a"})
	over("sum(a.price)", 0, api.ErrUse, api.Comp{Neg: true, Plus: true, Type: "Trade", Var: "a"})
	over("a.price", api.KInt, api.OK, api.Comp{}, api.Comp{Type: "Nope", Var: "b"}, single)
	over("v99.price", api.KInt, api.OK, comps(100)...)
	over("v100.price", 0, api.ErrVar, comps(100)...)
	// How references are mixed is not asked.
	all := []api.Comp{single, {Plus: true, Type: "Trade", Var: "b"}, {Plus: true, Type: "Trade", Var: "c"}, {Neg: true, Type: "Trade", Var: "n"}}
	over("b[i].price + c[i].price * a.price < n.price - b[last].price", api.KBool, api.OK, all...)
	// The first type of a name counts, and there may be none.
	types := []api.Type{{Name: "Trade", Attrs: []api.Attr{{Name: "price", Kind: api.KStr}}}}
	kind(t, expr("a.price"), api.Query{Comps: all}, append(types, declared()...), api.KStr, api.OK)
	kind(t, expr("a.price"), api.Query{Comps: all}, append(declared(), types...), api.KInt, api.OK)
	kind(t, expr("a.time"), api.Query{Comps: all}, nil, 0, api.ErrType)
	kind(t, expr("1"), api.Query{Comps: all}, nil, api.KInt, api.OK)
	kind(t, expr("x.x"), api.Query{Comps: []api.Comp{{Var: "x"}}}, odd(), api.KInt, api.OK)
}

// doubled gives sums of a number, of 2^levels - 1 nodes.
func doubled(levels int, e api.Expr) api.Expr {
	for range levels - 1 {
		e = api.Expr{Kind: api.EBin, Op: api.OAdd, Kids: []api.Expr{e, e}}
	}
	return e
}

// under gives an expression under so many minus signs.
func under(times int, e api.Expr) api.Expr {
	for range times {
		e = api.Expr{Kind: api.EUn, Op: api.ONeg, Kids: []api.Expr{e}}
	}
	return e
}

// noTrees are expressions of a wrong form, and such as are too deep or have too many nodes.
func noTrees() []api.Expr {
	holdsItself := []api.Expr{expr("-1")}
	holdsItself[0].Kids = holdsItself
	twice := []api.Expr{expr("1 + 1"), expr("1 + 1")}
	twice[0].Kids, twice[1].Kids = twice, twice
	return append(malformed(), under(32, expr("1")), under(100_000, expr("1")), doubled(9, expr("1")), api.Expr{Kind: api.EBin, Op: api.OAdd, Kids: []api.Expr{doubled(8, expr("1")), expr("1")}}, holdsItself[0], twice[0])
}

// malformed are expressions whose own form is wrong: sound ones with something else in each field.
func malformed() []api.Expr {
	var l []api.Expr
	for _, text := range []string{"1", `"s"`, "TRUE", "a.price", "b[i].price", "b[last].sym", "count(b)", "max(b[..i-1].price)", "- a.price", "NOT a.live", "a.price + 1", "a.live OR TRUE"} {
		for n := -1; n < 15; n++ {
			for _, e := range []api.Expr{{Kind: n}, {Op: n}, {At: n}, {Val: api.Value{Kind: n}}, {Val: api.Value{Int: int64(n)}}, {Val: api.Value{Bool: true}}, {Var: "SEQ"}, {Attr: "9"}, {Var: "a"}, {Attr: "a"}, {Val: api.Value{Str: "s"}}, {Val: api.Value{Str: strings.Repeat("s", 257)}}, {Kids: []api.Expr{expr("1")}}, {Kids: []api.Expr{expr("1"), expr("1")}}, {Kids: make([]api.Expr, 1)}, {Kids: make([]api.Expr, 2)}, {Kids: make([]api.Expr, 3)}} {
				e = changed(expr(text), e)
				if _, err := tree.PrintExpr(e); err != api.OK {
					l = append(l, e)
				}
			}
		}
	}
	return append(l, api.Expr{})
}

// changed gives an expression with each field of another one that is not zero.
func changed(e, by api.Expr) api.Expr {
	e.Kind, e.Op, e.At = or(by.Kind, e.Kind), or(by.Op, e.Op), or(by.At, e.At)
	e.Val = api.Value{Kind: or(by.Val.Kind, e.Val.Kind), Int: or(by.Val.Int, e.Val.Int), Str: or(by.Val.Str, e.Val.Str), Bool: or(by.Val.Bool, e.Val.Bool)}
	e.Var, e.Attr = or(by.Var, e.Var), or(by.Attr, e.Attr)
	if by.Kids != nil {
		e.Kids = by.Kids
	}
	return e
}

// or gives the first thing, unless it is zero.
func or[T comparable](one, other T) T {
	var zero T
	if one != zero {
		return one
	}
	return other
}

func TestKindWantsTrees(t *testing.T) {
	q, types := pattern(t)
	if len(malformed()) < 1000 {
		t.Fatalf("only %d malformed ones", len(malformed()))
	}
	for _, e := range noTrees() {
		kind(t, e, q, types, 0, api.ErrTree)
		kind(t, e, api.Query{}, nil, 0, api.ErrTree)
		// Whether all of it is a tree is asked ahead of the walk.
		for _, other := range few() {
			kind(t, api.Expr{Kind: api.EBin, Op: api.OAnd, Kids: []api.Expr{expr(other.text), e}}, q, types, 0, api.ErrTree)
			kind(t, api.Expr{Kind: api.EBin, Op: api.OAdd, Kids: []api.Expr{under(3, e), expr(other.text)}}, q, types, 0, api.ErrTree)
		}
	}
}

func TestKindAtTheBounds(t *testing.T) {
	q, types := pattern(t)
	kind(t, under(31, expr("a.price")), q, types, api.KInt, api.OK)
	kind(t, under(31, expr("a.sym")), q, types, 0, api.ErrKind)
	kind(t, under(31, expr("z.x")), q, types, 0, api.ErrVar)
	most := under(1, doubled(8, expr("sum(b.price)")))
	kind(t, most, q, types, api.KInt, api.OK)
	kind(t, under(1, most), q, types, 0, api.ErrTree)
	kind(t, under(24, doubled(8, expr("1"))), q, types, 0, api.ErrTree)
}
