package tree_test

import (
	"slices"
	"sync"
	"testing"
	"unsafe"

	"refrain/api"
	"refrain/tree"
)

// within tells whether a text's bytes lie in those of another one.
func within(part, whole string) bool {
	if part == "" || whole == "" {
		return false
	}
	p, w := uintptr(unsafe.Pointer(unsafe.StringData(part))), uintptr(unsafe.Pointer(unsafe.StringData(whole)))
	return p >= w && p < w+uintptr(len(whole))
}

// roomy gives a list with spare room behind it, and a look at all of it.
func roomy[T any](spare T, l ...T) (part, whole []T) {
	whole = append(slices.Clone(l), spare, spare, spare)
	return whole[:len(l)], whole
}

func TestWhatIsHandedInStaysAsItIs(t *testing.T) {
	spare := ref("spare", api.AtCur, "room")
	kids, allKids := roomy(spare, ax(), call(api.FSum, "b", api.AtAll, "y"))
	where, allWhere := roomy(spare, bin(api.OEq, kids...), un(api.ONot, truth(true)))
	comps, allComps := roomy(api.Comp{Type: "spare"}, api.Comp{Type: "T", Var: "a"}, api.Comp{Plus: true, Type: "T", Var: "b"})
	equiv, allEquiv := roomy("spare", "k", "l")
	items, allItems := roomy(api.Item{Name: "spare"}, api.Item{Name: "n", Expr: bin(api.OAdd, kids...)})
	q := api.Query{Comps: comps, Strategy: api.Any, Equiv: equiv, Where: where, Within: 5, Items: items}
	wasKids, wasWhere, wasComps, wasEquiv, wasItems := slices.Clone(allKids), slices.Clone(allWhere), slices.Clone(allComps), slices.Clone(allEquiv), slices.Clone(allItems)
	for range 2 {
		tree.Check(q)
		tree.Print(q)
		for _, e := range append([]api.Expr{{Kind: 7, Kids: kids}, {Kind: api.ELit, Kids: where}}, where...) {
			tree.PrintExpr(e)
			tree.Equal(e, where[0])
			tree.Equal(where[1], e)
			tree.Refs(e)
			tree.Size(e)
		}
		q.Part = "no name"
	}
	if !slices.EqualFunc(allKids, wasKids, sameExpr) || !slices.EqualFunc(allWhere, wasWhere, sameExpr) || !slices.Equal(allComps, wasComps) || !slices.Equal(allEquiv, wasEquiv) || !slices.EqualFunc(allItems, wasItems, sameItem) {
		t.Errorf("P6.8: what was handed in is now %+v, %v, %v, %v, %v", allKids, allWhere, allComps, allEquiv, allItems)
	}
}

func TestRefsGivesNewMemory(t *testing.T) {
	name := "variable and attribute"
	e := bin(api.OAdd, ref(name[:8], api.AtOne, name[13:]), call(api.FMax, name[:8], api.AtAll, name[13:]))
	want := []api.Ref{{Var: "variable", At: api.AtOne, Attr: "attribute"}, {Var: "variable", At: api.AtAll, Attr: "attribute", Fn: api.FMax}}
	for range 3 {
		one, other := tree.Refs(e), tree.Refs(e)
		_ = append(one, api.Ref{Var: "x"})
		clear(one[:cap(one)])
		if !slices.Equal(other, want) || !slices.Equal(tree.Refs(e), want) {
			t.Errorf("P6.8: what was written into an answer is in another one: %v", other)
		}
		for _, r := range other {
			if within(r.Var, name) || within(r.Attr, name) {
				t.Errorf("P6.8: a text of %v is a piece of one that was handed in", r)
			}
		}
	}
}

func TestTextsAreNew(t *testing.T) {
	name := "variable"
	for _, e := range []api.Expr{ref(name, api.AtOne, name), text(name), call(api.FCount, name, api.AtAll, "")} {
		if s, err := tree.PrintExpr(e); within(s, name) || err != api.OK {
			t.Errorf("P6.8: PrintExpr(%s) = %q, %d, a piece of what was handed in", shown(e), s, err)
		}
	}
}

// TestAnswersHangOnArgumentsAlone asks the same behind calls of all kinds, of many at a time.
func TestAnswersHangOnArgumentsAlone(t *testing.T) {
	var group sync.WaitGroup
	shared := bin(api.OAnd, un(api.ONot, ax()), truth(true))
	for range 8 {
		group.Go(func() {
			for range 200 {
				tree.Check(api.Query{})
				tree.Print(with(func(q *api.Query) { q.Equiv = slices.Repeat([]string{"abcdefgh"}, 500) }))
				tree.PrintExpr(under(40, ax()))
				tree.Refs(every())
				writes(t, shared, "NOT a.x AND TRUE")
				writesNot(t, number(-1), api.ErrTree)
				writesQuery(t, plain(), "PATTERN SEQ(T a) WITHIN 0 RETURN (n = 1)")
				writesQueryNot(t, "no component", api.Query{}, api.ErrTree)
				speaksOf(t, shared, api.Ref{Var: "a", At: api.AtOne, Attr: "x"})
				sized(t, shared, 4, 3)
				equals(t, shared, shared, true)
				equals(t, shared, ax(), false)
			}
		})
	}
	group.Wait()
}
