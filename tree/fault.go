package tree

import (
	"refrain/api"
	"refrain/schema"
	"refrain/value"
)

// queryFault tells a query's first fault, but for the length of its text.
func queryFault(q api.Query) api.Errno {
	if !compsMayBe(q.Comps) || !nameOrNone(q.Part) || strategyWord(q.Strategy) == "" || !areNames(q.Equiv) {
		return api.ErrTree
	}
	for _, e := range q.Where {
		if err := exprFault(e); err != api.OK {
			return err
		}
	}
	if q.Within < 0 || q.Within > api.MaxTime || !nameOrNone(q.Out) || len(q.Items) == 0 {
		return api.ErrTree
	}
	for _, item := range q.Items {
		if !schema.Name(item.Name) {
			return api.ErrTree
		}
		if err := exprFault(item.Expr); err != api.OK {
			return err
		}
	}
	return api.OK
}

func compsMayBe(comps []api.Comp) bool {
	for _, c := range comps {
		if c.Neg && c.Plus || !schema.Name(c.Type) || !schema.Name(c.Var) {
			return false
		}
	}
	return len(comps) > 0
}

func areNames(list []string) bool {
	for _, s := range list {
		if !schema.Name(s) {
			return false
		}
	}
	return true
}

func nameOrNone(s string) bool { return s == "" || schema.Name(s) }

// exprFault tells an expression's fault, but for the length of its text.
func exprFault(e api.Expr) api.Errno {
	count, formed := 0, true
	for depth, node := range over(e).nodes() {
		// Told at once: the rest of a tree that is too deep may be without end.
		if depth > api.MaxDepth {
			return api.ErrDeep
		}
		count++
		formed = formed && (count > api.MaxNodes || nodeFormed(*node))
	}
	switch {
	case count > api.MaxNodes:
		return api.ErrLong
	case !formed:
		return api.ErrTree
	}
	return api.OK
}

// nodeFormed tells whether a node's own form is right, whatever its Kids are.
func nodeFormed(e api.Expr) bool {
	if !alike(e, spoken(e)) {
		return false
	}
	switch e.Kind {
	case api.ELit:
		return value.Valid(e.Val) && e.Val.Int >= 0
	case api.ERef:
		return schema.Name(e.Var) && e.At >= api.AtOne && e.At <= api.AtLast && schema.Name(e.Attr)
	case api.EAgg:
		return functionFormed(e)
	case api.EUn:
		return (e.Op == api.ONeg || e.Op == api.ONot) && len(e.Kids) == 1
	case api.EBin:
		return e.Op >= api.OAdd && e.Op <= api.OOr && len(e.Kids) == 2
	}
	return false
}

func functionFormed(e api.Expr) bool {
	if functionWord(e.Op) == "" || !schema.Name(e.Var) || e.At != api.AtAll && e.At != api.AtBefore {
		return false
	}
	if e.Op == api.FCount {
		return e.Attr == ""
	}
	return schema.Name(e.Attr)
}

// spoken gives a node with those fields alone that its kind speaks of.
func spoken(e api.Expr) api.Expr {
	s := api.Expr{Kind: e.Kind}
	switch e.Kind {
	case api.ELit:
		s.Val = e.Val
	case api.EAgg:
		s.Op = e.Op
		fallthrough
	case api.ERef:
		s.Var, s.At, s.Attr = e.Var, e.At, e.Attr
	case api.EUn, api.EBin:
		s.Op, s.Kids = e.Op, e.Kids
	}
	return s
}

// alike tells whether two nodes are the same, but for what their Kids are.
func alike(a, b api.Expr) bool {
	return a.Kind == b.Kind && a.Op == b.Op && a.Val == b.Val && a.Var == b.Var && a.At == b.At && a.Attr == b.Attr && len(a.Kids) == len(b.Kids)
}
