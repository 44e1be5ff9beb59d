// Package shape: which expressions are trees of the language, whatever they speak of: see doc/06-tree.md, "An expression's fault". All packages that ask for it ask here.
package shape

import (
	"refrain/api"
	"refrain/schema"
	"refrain/value"
)

// Fault tells an expression's fault; how long its text would be does not matter.
func Fault(e api.Expr) api.Errno {
	count, formed := 0, true
	for depth, node := range Over(e).Nodes() {
		// Told at once: the rest of a tree that is too deep may be without end.
		if depth > api.MaxDepth {
			return api.ErrDeep
		}
		count++
		formed = formed && (count > api.MaxNodes || nodeFormed(*node))
	}
	switch {
	case count > api.MaxNodes:
		return api.ErrLong
	case !formed:
		return api.ErrTree
	}
	return api.OK
}

// Alike tells whether two nodes are the same, but for what their Kids are.
func Alike(a, b api.Expr) bool {
	return a.Kind == b.Kind && a.Op == b.Op && a.Val == b.Val && a.Var == b.Var && a.At == b.At && a.Attr == b.Attr && len(a.Kids) == len(b.Kids)
}

// nodeFormed tells whether a node's own form is right, whatever its Kids are.
func nodeFormed(e api.Expr) bool {
	if !Alike(e, spoken(e)) {
		return false
	}
	switch e.Kind {
	case api.ELit:
		return value.Valid(e.Val) && e.Val.Int >= 0
	case api.ERef:
		return schema.Name(e.Var) && e.At >= api.AtOne && e.At <= api.AtLast && schema.Name(e.Attr)
	case api.EAgg:
		return functionFormed(e)
	case api.EUn:
		return (e.Op == api.ONeg || e.Op == api.ONot) && len(e.Kids) == 1
	case api.EBin:
		return e.Op >= api.OAdd && e.Op <= api.OOr && len(e.Kids) == 2
	}
	return false
}

func functionFormed(e api.Expr) bool {
	if e.Op < api.FCount || e.Op > api.FMax || !schema.Name(e.Var) || e.At != api.AtAll && e.At != api.AtBefore {
		return false
	}
	if e.Op == api.FCount {
		return e.Attr == ""
	}
	return schema.Name(e.Attr)
}

// spoken gives a node with those fields alone that its kind speaks of.
func spoken(e api.Expr) api.Expr {
	s := api.Expr{Kind: e.Kind}
	switch e.Kind {
	case api.ELit:
		s.Val = e.Val
	case api.EAgg:
		s.Op = e.Op
		fallthrough
	case api.ERef:
		s.Var, s.At, s.Attr = e.Var, e.At, e.Attr
	case api.EUn, api.EBin:
		s.Op, s.Kids = e.Op, e.Kids
	}
	return s
}
