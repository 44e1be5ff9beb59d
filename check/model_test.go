package check_test

import (
	"slices"
	"strconv"

	"refrain/api"
	"refrain/schema"
	"refrain/tree"
)

// What the chapter says, once more and in another way than the program: as a row of sentences, of which the first one that holds tells the fault.

// saying says a sentence, and tells whether the next one is to be said: whether it does not hold.
type saying func(part, num int, err api.Errno, holds bool) bool

// modelFault is what Query is to answer.
func modelFault(q api.Query, types []api.Type) api.Fault {
	told := none()
	say := func(part, num int, err api.Errno, holds bool) bool {
		if holds {
			told = in(part, num, err)
		}
		return !holds
	}
	_ = modelComps(q, types, say) && modelShared(q, types, say) && modelWhere(q, types, say) &&
		say(api.InWithin, 0, api.ErrSpan, q.Within < 0 || uint64(q.Within) > 1<<62) &&
		say(api.InOut, 0, api.ErrType, q.Out != "" && len(typesOf(q.Out, types)) == 0) &&
		modelItems(q, types, say)
	return told
}

// typesOf gives all types of a name.
func typesOf(name string, types []api.Type) []api.Type {
	return slices.DeleteFunc(slices.Clone(types), func(t api.Type) bool { return t.Name != name })
}

// kindsOf gives the kinds of all attributes of a name, of the first type of a name.
func kindsOf(kind, attr string, types []api.Type) []int {
	var kinds []int
	for _, a := range typesOf(kind, types)[0].Attrs {
		if a.Name == attr {
			kinds = append(kinds, a.Kind)
		}
	}
	return kinds
}

// sound tells whether a kind is one of the three.
func sound(kind int) bool { return slices.Contains([]int{1, 2, 3}, kind) }

func modelComps(q api.Query, types []api.Type, say saying) bool {
	going := say(api.InComps, 0, api.ErrLong, len(q.Comps) == 0) && say(api.InComps, 8, api.ErrLong, len(q.Comps) > 8)
	seen := map[string]int{}
	for i := 0; going && i < len(q.Comps); i++ {
		c := q.Comps[i]
		going = say(api.InComps, i, api.ErrTree, c.Neg && c.Plus) &&
			say(api.InComps, i, api.ErrType, len(typesOf(c.Type, types)) == 0) &&
			say(api.InComps, i, api.ErrVar, !schema.Name(c.Var) || seen[c.Var] > 0)
		seen[c.Var]++
	}
	return going && say(api.InComps, 0, api.ErrNeg, q.Comps[0].Neg) && say(api.InComps, len(q.Comps)-1, api.ErrNeg, q.Comps[len(q.Comps)-1].Neg)
}

// modelShared tells of PARTITION and the equivalences.
func modelShared(q api.Query, types []api.Type, say saying) bool {
	one := func(part, num int, attr string) bool {
		going := true
		for i := 0; going && i < len(q.Comps); i++ {
			kinds := kindsOf(q.Comps[i].Type, attr, types)
			going = say(part, num, api.ErrAttr, len(kinds) == 0 || attr == "time") &&
				say(part, num, api.ErrKind, !sound(kinds[0]) || kinds[0] != kindsOf(q.Comps[0].Type, attr, types)[0])
		}
		return going
	}
	going := q.Part == "" || one(api.InPart, 0, q.Part)
	for i := 0; going && i < len(q.Equiv); i++ {
		going = say(api.InEquiv, i, api.ErrLong, i == 32) && say(api.InEquiv, i, api.ErrEquiv, slices.Index(q.Equiv, q.Equiv[i]) < i) && one(api.InEquiv, i, q.Equiv[i])
	}
	return going
}

func modelWhere(q api.Query, types []api.Type, say saying) bool {
	going := say(api.InWhere, 0, api.ErrTree, !slices.Contains([]int{1, 2, 3}, q.Strategy))
	for i := 0; going && i < len(q.Where); i++ {
		kind, err := modelKind(q.Where[i], q, types)
		going = say(api.InWhere, i, api.ErrLong, len(q.Equiv)+i == 32) &&
			say(api.InWhere, i, err, err != api.OK) &&
			say(api.InWhere, i, api.ErrMix, condIsMixed(q.Where[i], q)) &&
			say(api.InWhere, i, api.ErrBool, kind != api.KBool)
	}
	return going
}

func modelItems(q api.Query, types []api.Type, say saying) bool {
	going := say(api.InItems, 0, api.ErrLong, len(q.Items) == 0) && say(api.InItems, 16, api.ErrLong, len(q.Items) > 16)
	var attrs []api.Attr
	if q.Out != "" && going {
		attrs = typesOf(q.Out, types)[0].Attrs
	}
	seen := map[string]int{}
	for i := 0; going && i < len(q.Items); i++ {
		item := q.Items[i]
		kind, err := modelKind(item.Expr, q, types)
		seen[item.Name]++
		going = say(api.InItems, i, api.ErrName, !schema.Name(item.Name)) &&
			say(api.InItems, i, api.ErrDup, seen[item.Name] > 1) &&
			say(api.InItems, i, err, err != api.OK) &&
			say(api.InItems, i, api.ErrMix, itemIsMixed(item.Expr, q)) &&
			say(api.InItems, i, api.ErrOut, q.Out != "" && !slices.Equal(attrs[min(i, len(attrs)):min(i+1, len(attrs))], []api.Attr{{Name: item.Name, Kind: kind}}))
	}
	return going && say(api.InItems, len(q.Items), api.ErrOut, len(attrs) > len(q.Items))
}

// modelKind is what Kind is to answer: the nodes, operands ahead of their operation, are gone through with the kinds of what has no operation yet on a heap.
func modelKind(e api.Expr, q api.Query, types []api.Type) (int, api.Errno) {
	if nodes, depth := tree.Size(e); nodes > 256 || depth > 32 {
		return 0, api.ErrTree
	}
	if _, err := tree.PrintExpr(e); err == api.ErrTree {
		return 0, api.ErrTree
	}
	var heap []int
	for _, node := range operandsFirst(e) {
		kids := heap[len(heap)-len(node.Kids):]
		heap = heap[:len(heap)-len(node.Kids)]
		kind, err := modelNode(node, kids, q, types)
		if err != api.OK {
			return 0, err
		}
		heap = append(heap, kind)
	}
	return heap[0], api.OK
}

// operandsFirst gives all nodes, each behind its Kids.
func operandsFirst(e api.Expr) []api.Expr {
	var l []api.Expr
	for _, kid := range e.Kids {
		l = append(l, operandsFirst(kid)...)
	}
	return append(l, e)
}

// modelNode tells the kind of a node on Kids of such kinds.
func modelNode(e api.Expr, kids []int, q api.Query, types []api.Type) (int, api.Errno) {
	switch e.Kind {
	case api.ELit:
		return e.Val.Kind, api.OK
	case api.ERef, api.EAgg:
		return modelRef(e, q, types)
	}
	signs := [...]string{"", "-", "NOT", "+", "-", "*", "=", "!=", "<", "<=", ">", ">=", "AND", "OR"}
	if kind := fits(signs[e.Op], kids...); kind != 0 {
		return kind, api.OK
	}
	return 0, api.ErrKind
}

func modelRef(e api.Expr, q api.Query, types []api.Type) (int, api.Errno) {
	at := slices.IndexFunc(q.Comps, func(c api.Comp) bool { return c.Var == e.Var })
	if at < 0 {
		return 0, api.ErrVar
	}
	c := q.Comps[at]
	if len(typesOf(c.Type, types)) == 0 {
		return 0, api.ErrType
	}
	if many := c.Plus && !c.Neg; many && e.Kind == api.ERef && e.At == api.AtOne || !many && (e.Kind == api.EAgg || e.At != api.AtOne) {
		return 0, api.ErrUse
	}
	kinds := kindsOf(c.Type, e.Attr, types)
	switch {
	case e.Attr == "time" || e.Kind == api.EAgg && e.Op == api.FCount:
		return api.KInt, api.OK
	case len(kinds) == 0:
		return 0, api.ErrAttr
	case !sound(kinds[0]) || e.Kind == api.EAgg && kinds[0] != api.KInt:
		return 0, api.ErrKind
	}
	return kinds[0], api.OK
}

// who tells of which component a reference speaks, and how.
type who struct {
	comp             int
	iterating, first bool
}

func spokenIn(e api.Expr, q api.Query) []who {
	var l []who
	for _, r := range tree.Refs(e) {
		w := who{comp: slices.IndexFunc(q.Comps, func(c api.Comp) bool { return c.Var == r.Var }), first: r.At == api.AtFirst}
		w.iterating = slices.Contains([]int{api.AtCur, api.AtPrev, api.AtBefore}, r.At)
		l = append(l, w)
	}
	return l
}

// condIsMixed goes by doc/00-meaning.md, "Refs".
func condIsMixed(e api.Expr, q api.Query) bool {
	l := spokenIn(e, q)
	for _, one := range l {
		// Those that may stand with it: at positive components ahead of it, and some at its own.
		for _, other := range l {
			ahead := other.comp < one.comp && !q.Comps[other.comp].Neg && !other.iterating
			if one.iterating && !ahead && (other.comp != one.comp || !other.iterating && !other.first) {
				return true
			}
			if q.Comps[one.comp].Neg && !ahead && other.comp != one.comp {
				return true
			}
		}
	}
	return false
}

func itemIsMixed(e api.Expr, q api.Query) bool {
	return slices.ContainsFunc(spokenIn(e, q), func(w who) bool { return w.iterating || q.Comps[w.comp].Neg })
}

// faultName names a fault's sort: its part and its error.
func faultName(f api.Fault) string { return strconv.Itoa(f.Part) + " " + strconv.Itoa(int(f.Err)) }
