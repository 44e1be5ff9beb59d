package fold_test

import (
	"math"
	"math/rand/v2"
	"slices"
	"testing"

	"refrain/api"
	"refrain/fold"
	"refrain/tree"
)

// holder holds what Fold and Conds answer against the model and against the promises.
type holder struct {
	*testing.T
	*model
	*rand.Rand
	refused, valued int // how often an expression had an error, or a value
}

func newHolder(t *testing.T) *holder {
	return &holder{T: t, model: newModel(), Rand: rand.New(rand.NewPCG(9, 9))}
}

// env gives at random what references and functions are: mostly of the kind that their names tell.
func (h *holder) env() func(text string) api.Value {
	known := map[string]api.Value{}
	return func(text string) api.Value {
		v, ok := known[text]
		if !ok {
			switch text[len(text)-2:] {
			case "ok":
				v = truth(h.IntN(2) == 0).Val
			case ".s":
				v.Kind, v.Str = api.KStr, one(h.Rand, "", "a", "b", "a")
			default:
				v.Kind, v.Int = api.KInt, one(h.Rand, 0, 1, -1, 2, 3, -3, 7, math.MaxInt64, math.MinInt64, math.MinInt64+1, 1<<32, h.Int64())
			}
			known[text] = v
		}
		return v
	}
}

// hold asks for an expression without a fault.
func (h *holder) hold(e api.Expr) {
	h.Helper()
	got := fold.Fold(e)
	if want := h.fold(e); !same(got, want) {
		h.Fatalf("P9.1: Fold(%s) = %s, want %s", shown(e), shown(got), shown(want))
	}
	if again := fold.Fold(got); !same(again, got) {
		h.Fatalf("P9.3: Fold(%s) = %s, and that becomes %s", shown(e), shown(got), shown(again))
	}
	nodes, depth := tree.Size(e)
	if n, d := tree.Size(got); n > nodes || d > depth {
		h.Fatalf("P9.3: Fold(%s) = %s: of %d nodes, %d deep, there are %d, %d deep", shown(e), shown(got), nodes, depth, n, d)
	}
	refs := tree.Refs(e)
	if _, err := tree.PrintExpr(got); err == api.ErrTree || slices.ContainsFunc(tree.Refs(got), func(r api.Ref) bool { return !slices.Contains(refs, r) }) {
		h.Fatalf("P9.3: Fold(%s) = %s, which is no tree, or speaks of other things", shown(e), shown(got))
	}
	if v, ok := fold.Const(e); ok && !same(got, modelWritten(v)) {
		h.Fatalf("P9.4: Const(%s) = %v, but Fold gives %s", shown(e), v, shown(got))
	}
	h.holdConst(e)
	h.holdMeaning(e, got)
}

func (h *holder) holdConst(e api.Expr) {
	h.Helper()
	v, ok := fold.Const(e)
	if want, is := modelConst(e); ok != is || is && v != want || !is && v != (api.Value{}) {
		h.Fatalf("P9.4: Const(%s) = %v, %v, want %v, %v", shown(e), v, ok, want, is)
	}
}

func (h *holder) holdMeaning(e, folded api.Expr) {
	h.Helper()
	for range 3 {
		env := h.env()
		v, ok := worth(e, env)
		if !ok {
			h.refused++
			return
		}
		h.valued++
		if got, ok := worth(folded, env); !ok || got != v {
			h.Fatalf("P9.2: Fold(%s) = %s, which is worth %v, not %v", shown(e), shown(folded), got, v)
		}
	}
}

// leaves gives expressions of one node, or of constants that are written with more.
func leaves() []api.Expr {
	return exprs(`0; 1; 2; -1; TRUE; FALSE; "s"; a.x; a.y; a.ok; 9223372036854775807 + 1`)
}

// grown gives all operations on these.
func grown(kids []api.Expr) []api.Expr {
	var all []api.Expr
	for _, x := range kids {
		all = append(all, un(api.ONeg, x), un(api.ONot, x))
		for _, y := range kids {
			for op := api.OAdd; op <= api.OOr; op++ {
				all = append(all, bin(op, x, y))
			}
		}
	}
	return all
}

// TestAllSmallExpressions holds operations on operations on leaves, whatever their kinds.
func TestAllSmallExpressions(t *testing.T) {
	h := newHolder(t)
	few := leaves()
	for _, e := range few {
		h.hold(e)
	}
	for i, e := range grown(few) {
		h.hold(e)
		h.hold(un(api.ONeg, e))
		h.hold(un(api.ONot, e))
		for j, other := range few {
			for op := api.OAdd; op <= api.OOr; op++ {
				if (i+j+op)%5 == 0 { // a fifth of them: which ones changes from leaf to leaf
					h.hold(bin(op, e, other))
					h.hold(bin(op, other, e))
				}
			}
		}
	}
	if h.valued < 5_000 || h.refused < 5_000 {
		t.Errorf("only %d values and %d errors were met", h.valued, h.refused)
	}
}

// one picks one of a list.
func one[T any](r *rand.Rand, l ...T) T { return l[r.IntN(len(l))] }

// leaf makes a leaf that is mostly of this kind.
func (h *holder) leaf(kind int) api.Expr {
	if h.IntN(60) == 0 {
		kind = 1 + h.IntN(3)
	}
	switch kind {
	case api.KStr:
		return expr(one(h.Rand, `"a"`, `"b"`, `a.s`, `b[last].s`))
	case api.KBool:
		return expr(one(h.Rand, `TRUE`, `FALSE`, `a.ok`, `b[i].ok`))
	}
	if h.IntN(4) == 0 {
		return number(h.Int64() >> h.IntN(63))
	}
	return expr(one(h.Rand, `0`, `1`, `2`, `3`, `9223372036854775807`, `9223372036854775807 + 1`, `a.x`, `a.x`, `a.y`, `b[first].x`, `count(b)`, `sum(b.x)`, `max(b[..i-1].x)`))
}

// expression makes an expression that is mostly of this kind.
func (h *holder) expression(kind, depth int) api.Expr {
	if depth <= 1 || kind == api.KStr || h.IntN(6) == 0 {
		return h.leaf(kind)
	}
	two := func(kind int, ops ...int) api.Expr {
		x := h.expression(kind, depth-1)
		if h.IntN(8) == 0 {
			return bin(one(h.Rand, ops...), x, x)
		}
		return bin(one(h.Rand, ops...), x, h.expression(kind, depth-1))
	}
	switch {
	case kind == api.KInt && h.IntN(4) == 0:
		return un(api.ONeg, h.expression(kind, depth-1))
	case kind == api.KInt:
		return two(kind, api.OAdd, api.OAdd, api.OSub, api.OSub, api.OMul)
	case h.IntN(4) == 0:
		return un(api.ONot, h.expression(kind, depth-1))
	case h.IntN(2) == 0:
		return two(kind, api.OAnd, api.OOr, api.OAnd, api.OOr, api.OEq, api.ONe)
	}
	return two(one(h.Rand, api.KInt, api.KInt, api.KStr), api.OEq, api.ONe, api.OLt, api.OLe, api.OGt, api.OGe)
}

// sound makes an expression that is mostly of this kind, and has no fault.
func (h *holder) sound(kind, depth int) api.Expr {
	for {
		e := h.expression(kind, depth)
		if nodes, depth := tree.Size(e); nodes <= api.MaxNodes && depth <= api.MaxDepth {
			return e
		}
	}
}

func TestGrownExpressions(t *testing.T) {
	h := newHolder(t)
	for range 40_000 {
		h.hold(h.sound(one(h.Rand, api.KInt, api.KBool), 1+h.IntN(6)))
	}
	for range 300 {
		h.hold(h.sound(one(h.Rand, api.KInt, api.KBool), 8))
	}
	for _, p := range h.patterns {
		if h.used[p.text] < 15 {
			t.Errorf("the rule %s was gone by %d times", p.text, h.used[p.text])
		}
	}
	if h.valued < 50_000 || h.refused < 1_000 {
		t.Errorf("only %d values and %d errors were met", h.valued, h.refused)
	}
}

// TestGrownTrees asks for trees of any form.
func TestGrownTrees(t *testing.T) {
	h := newHolder(t)
	constants, faults := 0, 0
	for range 60_000 {
		e := h.spoilt(h.sound(one(h.Rand, api.KInt, api.KBool), 1+h.IntN(4)))
		h.holdConst(e)
		if _, ok := fold.Const(e); ok {
			constants++
		}
		if _, err := tree.PrintExpr(e); err == api.OK {
			continue
		}
		faults++
		if got := fold.Fold(e); !same(got, e) {
			t.Fatalf("P9.1: Fold(%s) = %s, want it as it is", printed(e), printed(got))
		}
	}
	if constants < 500 || faults < 10_000 {
		t.Errorf("only %d constants and %d faults were met", constants, faults)
	}
}

// spoilt changes a field of one of an expression's nodes.
func (h *holder) spoilt(e api.Expr) api.Expr {
	if len(e.Kids) > 0 && h.IntN(3) > 0 {
		e.Kids = slices.Clone(e.Kids)
		at := h.IntN(len(e.Kids))
		e.Kids[at] = h.spoilt(e.Kids[at])
		return e
	}
	switch h.IntN(7) {
	case 0:
		e.Kind = one(h.Rand, -1, 0, 1, 2, 3, 4, 5, 6)
	case 1:
		e.Op = h.IntN(15)
	case 2:
		e.Val = one(h.Rand, api.Value{}, number(-3).Val, number(3).Val, truth(true).Val, api.Value{Kind: api.KInt, Bool: true})
	case 3:
		e.Var = one(h.Rand, "", "a", "INT", "no name")
	case 4:
		e.At = h.IntN(9)
	case 5:
		e.Attr = one(h.Rand, "", "x", "NOT")
	default:
		e.Kids = append(slices.Clone(e.Kids), leaves()...)[:h.IntN(4)]
	}
	return e
}
