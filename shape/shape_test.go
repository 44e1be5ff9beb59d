package shape_test

import (
	"reflect"
	"slices"
	"strconv"
	"strings"
	"testing"

	"refrain/api"
	"refrain/shape"
	"refrain/tree"
)

// What the forms are in all their parts is tested where they are promised: in package tree.

func text(s string) api.Expr {
	return api.Expr{Kind: api.ELit, Val: api.Value{Kind: api.KStr, Str: s}}
}

func not(e api.Expr) api.Expr {
	return api.Expr{Kind: api.EUn, Op: api.ONot, Kids: []api.Expr{e}}
}

func and(one, other api.Expr) api.Expr {
	return api.Expr{Kind: api.EBin, Op: api.OAnd, Kids: []api.Expr{one, other}}
}

// under gives an expression under some NOTs.
func under(times int, e api.Expr) api.Expr {
	for range times {
		e = not(e)
	}
	return e
}

// doubled gives 2^levels - 1 nodes over expressions of one.
func doubled(levels int, e api.Expr) api.Expr {
	for range levels - 1 {
		e = and(e, e)
	}
	return e
}

func TestFault(t *testing.T) {
	sound, none := text("s"), api.Expr{}
	endless := []api.Expr{not(sound)}
	endless[0].Kids = endless
	for _, c := range []struct {
		what string
		e    api.Expr
		want api.Errno
	}{
		{"a literal", sound, api.OK},
		{"no kind", none, api.ErrTree},
		{"no kind below", and(sound, not(none)), api.ErrTree},
		{"the greatest depth", under(31, sound), api.OK},
		{"a level more", under(32, sound), api.ErrDeep},
		{"many levels more", under(100_000, sound), api.ErrDeep},
		{"the most nodes", not(doubled(8, sound)), api.OK},
		{"a node more", not(not(doubled(8, sound))), api.ErrLong},
		{"the greatest text", doubled(7, text(strings.Repeat("\x00", 256))), api.OK},
		{"too deep, too many and of no form", and(none, and(doubled(9, sound), under(31, sound))), api.ErrDeep},
		{"too many and of no form", and(none, doubled(9, sound)), api.ErrLong},
		{"Kids that hold themselves", endless[0], api.ErrDeep},
	} {
		if got := shape.Fault(c.e); got != c.want {
			t.Errorf("Fault of %s: %d, want %d", c.what, got, c.want)
		}
	}
}

// TestWalk goes over a tree with the Kids of some nodes left out, and stops.
func TestWalk(t *testing.T) {
	e := and(not(text("a")), and(text("b"), not(text("c"))))
	var all, some []string
	w := shape.Over(e)
	for depth, node := range shape.Over(e).Nodes() {
		all = append(all, strconv.Itoa(depth)+node.Val.Str)
	}
	for depth, node := range w.Nodes() {
		some = append(some, strconv.Itoa(depth)+node.Val.Str)
		if node.Kind == api.EUn {
			w.PassKids()
		}
		if node.Val.Str == "b" {
			break
		}
	}
	if want := []string{"1", "2", "3a", "2", "3b", "3", "4c"}; !slices.Equal(all, want) {
		t.Errorf("all nodes are %v, want %v", all, want)
	}
	if want := []string{"1", "2", "2", "3b"}; !slices.Equal(some, want) {
		t.Errorf("some nodes are %v, want %v", some, want)
	}
	if node, depth := w.Next(); node == nil || node.Op != api.ONot || depth != 3 {
		t.Errorf("the node behind b is %v, %d", node, depth)
	}
	w.PassKids()
	if node, depth := w.Next(); node != nil || depth != 0 {
		t.Errorf("behind the last node: %v, %d", node, depth)
	}
}

func TestAlike(t *testing.T) {
	if !shape.Alike(and(text("a"), not(text("b"))), and(api.Expr{}, api.Expr{})) {
		t.Error("what the Kids are is asked")
	}
	if shape.Alike(not(text("a")), and(text("a"), text("a"))) || shape.Alike(api.Expr{Kids: []api.Expr{{}}}, api.Expr{}) {
		t.Error("how many Kids there are is not asked")
	}
}

// TestCopy sees that a copy is the same, and that nothing of it is what was handed in.
func TestCopy(t *testing.T) {
	shared := []api.Expr{text("a"), {Kind: 77, Op: -1, Val: api.Value{Bool: true, Int: 5}, Var: "v", At: 9, Attr: "x"}}
	e := api.Expr{Kind: 9, Var: "w", Kids: []api.Expr{{Kids: shared}, {Kids: shared}, {Kids: []api.Expr{}}, not(text("c"))}}
	was := shape.Copy(e)
	for range 2 {
		c := shape.Copy(e)
		if !reflect.DeepEqual(c, was) || !tree.Equal(c, e) {
			t.Fatalf("a copy of %+v is %+v", e, c)
		}
		c.Kids[0].Kids[1] = text("other")
		_ = append(c.Kids[3].Kids, text("behind"))
		clear(c.Kids[1].Kids)
		c.Kids[3] = text("other")
	}
	if !tree.Equal(e, was) || e.Kids[0].Kids[1].Var != "v" {
		t.Errorf("what was handed in is %+v", e)
	}
	if c := shape.Copy(under(1_000_000, text("deep"))); !tree.Equal(c, under(1_000_000, text("deep"))) {
		t.Error("the copy of a deep expression is another one")
	}
	if c := shape.Copy(api.Expr{}); !reflect.DeepEqual(c, api.Expr{}) {
		t.Errorf("a copy of nothing is %+v", c)
	}
}
