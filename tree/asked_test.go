package tree_test

import (
	"math/rand/v2"
	"slices"
	"testing"

	"refrain/api"
	"refrain/tree"
)

// equals holds Equal against what it is to answer, both ways.
func equals(t *testing.T, a, b api.Expr, want bool) {
	t.Helper()
	if tree.Equal(a, b) != want || tree.Equal(b, a) != want {
		t.Errorf("P6.5: Equal(%s, %s) = %v, the other way %v, want %v", shown(a), shown(b), tree.Equal(a, b), tree.Equal(b, a), want)
	}
}

// speaksOf holds Refs against what it is to answer.
func speaksOf(t *testing.T, e api.Expr, want ...api.Ref) {
	t.Helper()
	if got := tree.Refs(e); !slices.Equal(got, want) {
		t.Errorf("P6.6: Refs(%s) = %v, want %v", shown(e), got, want)
	}
}

// sized holds Size against what it is to answer.
func sized(t *testing.T, e api.Expr, nodes, depth int) {
	t.Helper()
	if n, d := tree.Size(e); n != nodes || d != depth {
		t.Errorf("P6.7: Size(%s) = %d, %d, want %d, %d", shown(e), n, d, nodes, depth)
	}
}

// every gives an expression with a value in every field, which is none of the language.
func every() api.Expr {
	return api.Expr{Kind: 9, Op: 8, Val: api.Value{Kind: 7, Int: 6, Str: "s", Bool: true}, Var: "v", At: 5, Attr: "x", Kids: []api.Expr{ax(), number(1)}}
}

func TestEqualAsksEveryField(t *testing.T) {
	equals(t, every(), every(), true)
	for _, change := range []func(e *api.Expr){
		func(e *api.Expr) { e.Kind++ },
		func(e *api.Expr) { e.Op = -8 },
		func(e *api.Expr) { e.Val.Kind++ },
		func(e *api.Expr) { e.Val.Int++ },
		func(e *api.Expr) { e.Val.Str = "S" },
		func(e *api.Expr) { e.Val.Bool = false },
		func(e *api.Expr) { e.Var = "" },
		func(e *api.Expr) { e.Var = "vv" },
		func(e *api.Expr) { e.At++ },
		func(e *api.Expr) { e.Attr = "X" },
		func(e *api.Expr) { e.Kids = nil },
		func(e *api.Expr) { e.Kids = e.Kids[:1] },
		func(e *api.Expr) { e.Kids = append(e.Kids, api.Expr{}) },
		func(e *api.Expr) { slices.Reverse(e.Kids) },
		func(e *api.Expr) { e.Kids[0].Attr = "y" },
		func(e *api.Expr) { e.Kids[1].Kids = []api.Expr{{}} },
		func(e *api.Expr) { *e = api.Expr{} },
	} {
		other := every()
		change(&other)
		equals(t, other, every(), false)
		equals(t, under(50, other), under(50, every()), false)
		equals(t, bin(api.OAdd, ax(), other), bin(api.OAdd, ax(), every()), false)
		equals(t, bin(api.OAdd, other, ax()), bin(api.OAdd, every(), ax()), false)
		same := every()
		change(&same)
		equals(t, other, same, true)
	}
}

func TestEqual(t *testing.T) {
	equals(t, api.Expr{}, api.Expr{}, true)
	equals(t, api.Expr{Kids: []api.Expr{}}, api.Expr{}, true)
	equals(t, un(api.ONot, api.Expr{Kids: make([]api.Expr, 0, 9)}), un(api.ONot, api.Expr{}), true)
	equals(t, truth(true), number(1), false)
	equals(t, bin(api.OAdd, ax(), number(1)), bin(api.OAdd, number(1), ax()), false)
	// The same nodes in the same order, but not the same tree.
	x := api.Expr{}
	fork := func(kids ...api.Expr) api.Expr { return api.Expr{Kids: kids} }
	equals(t, fork(fork(x), x), fork(fork(x, x)), false)
	equals(t, fork(fork(x), fork(x)), fork(fork(x, x), x), false)
	equals(t, fork(fork(x), x), fork(x, fork(x)), false)
	equals(t, fork(fork(x), x), fork(fork(x), x), true)
	deep, broad := under(300_000, x), fork(ones(300_000)...)
	equals(t, deep, under(300_000, x), true)
	equals(t, deep, under(300_000, ax()), false)
	equals(t, deep, under(299_999, x), false)
	equals(t, broad, fork(ones(300_000)...), true)
	equals(t, broad, fork(append(ones(299_999), number(2))...), false)
}

func TestRefs(t *testing.T) {
	one, sum := api.Ref{Var: "a", At: api.AtOne, Attr: "x"}, api.Ref{Var: "b", At: api.AtAll, Attr: "y", Fn: api.FSum}
	y := call(api.FSum, "b", api.AtAll, "y")
	speaksOf(t, ax(), one)
	speaksOf(t, y, sum)
	speaksOf(t, number(1))
	speaksOf(t, api.Expr{})
	speaksOf(t, bin(api.OAdd, ax(), bin(api.OMul, y, ax())), one, sum, one)
	speaksOf(t, bin(api.OAdd, bin(api.OMul, y, ax()), un(api.ONeg, y)), sum, one, sum)
	speaksOf(t, bin(api.OAdd, number(1), text("a.x")))
	speaksOf(t, call(api.FCount, "b", api.AtBefore, ""), api.Ref{Var: "b", At: api.AtBefore, Fn: api.FCount})
	// Trees that no text has: of those kinds Kids do not count, of every other one they do, and fields are told as they are.
	kids := []api.Expr{ax(), y, y}
	speaksOf(t, api.Expr{Kind: api.ELit, Var: "v", Kids: kids})
	speaksOf(t, api.Expr{Kind: api.ERef, Op: 3, Var: "9", At: -1, Kids: kids}, api.Ref{Var: "9", At: -1})
	speaksOf(t, api.Expr{Kind: api.EAgg, Op: -4, Attr: "SEQ", Kids: kids}, api.Ref{Attr: "SEQ", Fn: -4})
	speaksOf(t, api.Expr{Kind: api.EAgg}, api.Ref{})
	for _, kind := range []int{api.EUn, api.EBin, 0, -1, 6, 1 << 40} {
		speaksOf(t, api.Expr{Kind: kind, Var: "v", Attr: "w", Kids: kids}, one, sum, sum)
		speaksOf(t, api.Expr{Kind: kind, Kids: []api.Expr{{Kind: api.ELit, Kids: kids}, {Kind: kind, Kids: kids[:2]}, {Kind: api.ERef, Kids: kids}, y}}, one, sum, api.Ref{}, sum)
	}
	speaksOf(t, under(1_000_000, bin(api.OAnd, y, ax())), sum, one)
	speaksOf(t, api.Expr{Kids: slices.Repeat(kids, 1000)}, slices.Repeat([]api.Ref{one, sum, sum}, 1000)...)
}

func TestSize(t *testing.T) {
	sized(t, api.Expr{}, 1, 1)
	sized(t, bin(api.OAdd, ax(), bin(api.OMul, number(1), ax())), 5, 3)
	sized(t, bin(api.OAdd, bin(api.OMul, number(1), ax()), ax()), 5, 3)
	sized(t, bin(api.OAdd, under(4, ax()), under(2, ax())), 9, 6)
	sized(t, wide(8), 255, 8)
	sized(t, wide(20), 1<<20-1, 20)
	sized(t, under(1_000_000, ax()), 1_000_001, 1_000_001)
	for _, kind := range []int{0, -3, api.ELit, api.ERef, api.EAgg, api.EUn, api.EBin, 6} {
		sized(t, api.Expr{Kind: kind, Kids: ones(5)}, 6, 2)
		sized(t, api.Expr{Kind: kind, Kids: []api.Expr{{Kind: kind, Kids: ones(2)}, {Kind: kind}}}, 5, 3)
		sized(t, api.Expr{Kind: kind, Kids: ones(50_000)}, 50_001, 2)
	}
}

// odd gives a tree of any form, more often right than not.
func odd(r *rand.Rand, depth int) api.Expr {
	pick := func(l ...api.Expr) api.Expr { return l[r.IntN(len(l))] }
	x, y := ax(), call(api.FMin, "b", api.AtBefore, "y")
	if depth > 1 {
		x, y = odd(r, depth-1), odd(r, depth-1)
	}
	e := pick(ax(), number(r.Int64N(3)), text("s"), truth(true), call(api.FSum, "b", api.AtAll, "y"), call(api.FCount, "b", api.AtAll, ""), un(api.ONot, x), un(api.ONeg, x), bin(api.OAdd+r.IntN(11), x, y), bin(api.OAdd+r.IntN(11), y, x))
	switch r.IntN(40) {
	case 0:
		e.Kind = r.IntN(8) - 1
	case 1:
		e.Op = r.IntN(16) - 1
	case 2:
		e.At = r.IntN(10) - 1
	case 3:
		e.Attr = []string{"", "z", "9"}[r.IntN(3)]
	case 4:
		e.Var = []string{"", "c", "9"}[r.IntN(3)]
	case 5:
		e.Kids = append(slices.Clone(e.Kids), ax())
	case 6:
		e.Val = api.Value{Kind: r.IntN(5), Int: r.Int64N(3) - 1}
	}
	return e
}

// copied gives the same tree in other memory.
func copied(e api.Expr) api.Expr {
	kids := make([]api.Expr, 0, len(e.Kids)+3)
	for _, kid := range e.Kids {
		kids = append(kids, copied(kid))
	}
	e.Kids = kids
	return e
}

// TestOddTrees holds all calls against the model over trees of many forms.
func TestOddTrees(t *testing.T) {
	r := rand.New(rand.NewPCG(6, 6))
	faults := map[api.Errno]int{}
	last := ax()
	for i := range 30_000 {
		if t.Failed() { // one tree is enough to tell
			return
		}
		e := odd(r, 1+i%8)
		if i%20 == 0 {
			e = under(r.IntN(40), e)
		}
		nodes, depth := modelSize(e)
		sized(t, e, nodes, depth)
		speaksOf(t, e, modelRefs(e)...)
		equals(t, e, copied(e), true)
		equals(t, e, last, sameExpr(e, last))
		last = e
		fault := modelFault(e)
		faults[fault]++
		if fault != api.OK {
			writesNot(t, e, fault)
		} else {
			writes(t, e, modelText(e, 1))
		}
	}
	for _, fault := range []api.Errno{api.OK, api.ErrTree, api.ErrDeep} {
		if faults[fault] < 200 {
			t.Errorf("only %d trees with the fault %d were tried", faults[fault], fault)
		}
	}
}
