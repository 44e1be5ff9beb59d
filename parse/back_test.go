package parse_test

import (
	"math"
	"math/rand/v2"
	"slices"
	"strings"
	"testing"

	"refrain/api"
	"refrain/parse"
	"refrain/tree"
)

// comesBack writes a query that has a text, and reads that.
func comesBack(t *testing.T, q api.Query) {
	t.Helper()
	text, err := tree.Print(q)
	if err != api.OK {
		t.Fatalf("P7.3: Print(%s): %d", short(q), err)
	}
	if got, _, at, err := parse.Query(text); !sameQuery(got, q) || at != 0 || err != api.OK {
		t.Errorf("P7.3: Query(%.300q) = %s, %d, %d, want %s", text, short(got), at, err, short(q))
	}
}

func exprComesBack(t *testing.T, e api.Expr) {
	t.Helper()
	text, err := tree.PrintExpr(e)
	if err != api.OK {
		t.Fatalf("P7.3: PrintExpr(%s): %d", short(e), err)
	}
	if got, at, err := parse.Expr(text); !sameExpr(got, e) || at != 0 || err != api.OK {
		t.Errorf("P7.3: Expr(%.300q) = %s, %d, %d, want %s", text, short(got), at, err, short(e))
	}
}

// hasText tells what tree says of what was read, which may be one thing of two.
func hasText(t *testing.T, text string) api.Errno {
	t.Helper()
	q, _, _, err := parse.Query(text)
	if err != api.OK {
		t.Fatalf("P7.1: Query(%.300q): %d", text, err)
	}
	printed, fault := tree.Print(q)
	if tree.Check(q) != fault || fault != api.OK && fault != api.ErrLong {
		t.Errorf("P7.3: Query(%.300q) is read; Check tells %d, Print %d", text, tree.Check(q), fault)
	}
	if fault == api.OK {
		if again, _, _, err := parse.Query(printed); !sameQuery(again, q) || err != api.OK {
			t.Errorf("P7.3: Query(%.300q) = %s, %d, want %s", printed, short(again), err, short(q))
		}
	}
	return fault
}

// leaf gives an expression without Kids, chosen by chance.
func leaf(r *rand.Rand) api.Expr {
	name := func() string { return append(softWords(), "a", "b", "time", "_")[r.IntN(14)] }
	switch r.IntN(5) {
	case 0:
		return number([]int64{0, 1, 12, math.MaxInt64}[r.IntN(4)])
	case 1:
		return text([]string{"", "s", "\"\\\n\t\x00\xff", "--", "1", "TRUE", "a.x"}[r.IntN(7)])
	case 2:
		return truth(r.IntN(2) == 0)
	case 3:
		return ref(name(), api.AtOne+r.IntN(5), name())
	}
	e := call(api.FCount+r.IntN(4), name(), api.AtAll+r.IntN(2), name())
	if e.Op == api.FCount {
		e.Attr = ""
	}
	return e
}

// shaped gives an expression of that depth, chosen by chance.
func shaped(r *rand.Rand, depth int) api.Expr {
	if depth < 2 {
		return leaf(r)
	}
	e, other := shaped(r, depth-1), shaped(r, 1+r.IntN(min(depth-1, 3)))
	if r.IntN(2) == 0 {
		e, other = other, e
	}
	switch op := 1 + r.IntN(api.OOr); op {
	case api.ONeg, api.ONot:
		return un(op, e)
	default:
		return bin(op, e, other)
	}
}

func TestThereAndBack(t *testing.T) {
	r := rand.New(rand.NewPCG(7, 3))
	comps := []api.Comp{{Type: "T", Var: "a"}, {Plus: true, Type: "any", Var: "b"}, {Neg: true, Type: "next", Var: "i"}}
	words := []string{"", "k", "strict", "first"}
	spans := []int64{0, 1, 10, api.MaxTime - 1, api.MaxTime}
	for i := range 5000 {
		if t.Failed() {
			return
		}
		exprComesBack(t, shaped(r, 1+i%12))
		q := api.Query{Part: words[r.IntN(4)], Strategy: api.Any + r.IntN(3), Within: spans[r.IntN(5)], Out: words[r.IntN(4)]}
		for range 1 + r.IntN(4) {
			q.Comps = append(q.Comps, comps[r.IntN(3)])
		}
		for range r.IntN(3) {
			q.Equiv = append(q.Equiv, words[1+r.IntN(3)])
		}
		for range r.IntN(3) {
			q.Where = append(q.Where, shaped(r, 1+r.IntN(5)))
		}
		for range 1 + r.IntN(3) {
			q.Items = append(q.Items, api.Item{Name: words[1+r.IntN(3)], Expr: shaped(r, 1+r.IntN(5))})
		}
		comesBack(t, q)
	}
}

func TestThereAndBackAtTheBounds(t *testing.T) {
	one := number(1)
	most := one // 1 node; 255 nodes behind this
	for range 7 {
		most = bin(api.OAdd, most, most)
	}
	for _, e := range []api.Expr{under(api.ONot, 31, truth(true)), under(api.ONeg, 31, one), neg(most), text(strings.Repeat("\xff", 256))} {
		exprComesBack(t, e)
		comesBack(t, with(func(q *api.Query) { q.Where, q.Items[0].Expr = []api.Expr{e, one}, e }))
	}
	comesBack(t, with(func(q *api.Query) { q.Comps, q.Items = slices.Repeat(q.Comps, 300), slices.Repeat(q.Items, 100) }))
	comesBack(t, with(func(q *api.Query) {
		q.Equiv, q.Where = slices.Repeat([]string{"k"}, 100), slices.Repeat([]api.Expr{one}, 100)
	}))
}

func TestWhatIsReadHasAText(t *testing.T) {
	r := rand.New(rand.NewPCG(7, 1))
	tried := map[api.Errno]int{}
	for range 3000 {
		text := joined(r, grown(r, "query", 2))
		if q, _, _, err := parse.Query(text); err == api.OK && q.Within <= api.MaxTime {
			tried[hasText(t, text)]++
		}
		text = joined(r, grown(r, "expr", 4))
		e, _, err := parse.Expr(text)
		if err != api.OK {
			continue
		}
		switch printed, fault := tree.PrintExpr(e); fault {
		case api.OK:
			if again, _, err := parse.Expr(printed); !sameExpr(again, e) || err != api.OK {
				t.Errorf("P7.3: Expr(%.300q) = %s, %d, want %s", printed, short(again), err, short(e))
			}
		case api.ErrLong:
		default:
			t.Errorf("P7.3: Expr(%.300q) is read; PrintExpr tells %d", text, fault)
		}
	}
	if tried[api.OK] < 1000 {
		t.Errorf("only %d queries were tried", tried[api.OK])
	}
}

// TestTightTexts reads what tree writes with more blanks than a text may have.
func TestTightTexts(t *testing.T) {
	tight := bare("a.v", "1"+strings.Repeat("+1", 31))
	if fault := hasText(t, tight); fault != api.OK {
		t.Errorf("P7.3: %.100q: %d", tight, fault)
	}
	conds := strings.Repeat("a.x=1,", 500)
	tight = bare("WITHIN", "WHERE any{"+conds+"1}WITHIN")
	if fault := hasText(t, tight); fault != api.ErrLong {
		t.Errorf("P7.3: %.100q: %d", tight, fault)
	}
	// Of an expression: 15 strings of 258 bytes with their quotes, one of 206, and 15 signs, with blanks or without.
	long := `"` + strings.Repeat("s", 256) + `"`
	sum := strings.Repeat(long+"*", 15) + `"` + strings.Repeat("s", 204) + `"`
	e, at, err := parse.Expr(sum)
	if _, fault := tree.PrintExpr(e); len(sum) > api.MaxText || err != api.OK || at != 0 || fault != api.ErrLong {
		t.Errorf("P7.3: Expr(%.100q), of %d bytes: %d, %d, %d", sum, len(sum), at, err, fault)
	}
	// A span above MaxTime is read, and has no text.
	q, _, _, err := parse.Query(bare("5", "4611686018427387905"))
	if err != api.OK || tree.Check(q) != api.ErrTree {
		t.Errorf("P7.3: a span above MaxTime: %d, %d", err, tree.Check(q))
	}
}
