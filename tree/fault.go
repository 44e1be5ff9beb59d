package tree

import (
	"refrain/api"
	"refrain/schema"
	"refrain/shape"
)

// queryFault tells a query's first fault, but for the length of its text.
func queryFault(q api.Query) api.Errno {
	if !compsMayBe(q.Comps) || !nameOrNone(q.Part) || strategyWord(q.Strategy) == "" || !areNames(q.Equiv) {
		return api.ErrTree
	}
	for _, e := range q.Where {
		if err := shape.Fault(e); err != api.OK {
			return err
		}
	}
	if q.Within < 0 || q.Within > api.MaxTime || !nameOrNone(q.Out) || len(q.Items) == 0 {
		return api.ErrTree
	}
	for _, item := range q.Items {
		if !schema.Name(item.Name) {
			return api.ErrTree
		}
		if err := shape.Fault(item.Expr); err != api.OK {
			return err
		}
	}
	return api.OK
}

func compsMayBe(comps []api.Comp) bool {
	for _, c := range comps {
		if c.Neg && c.Plus || !schema.Name(c.Type) || !schema.Name(c.Var) {
			return false
		}
	}
	return len(comps) > 0
}

func areNames(list []string) bool {
	for _, s := range list {
		if !schema.Name(s) {
			return false
		}
	}
	return true
}

func nameOrNone(s string) bool { return s == "" || schema.Name(s) }
