package fold

import "refrain/api"

// operation makes a node of an operation on one side or on two.
func operation(op int, sides ...api.Expr) api.Expr {
	kind := api.EBin
	if len(sides) == 1 {
		kind = api.EUn
	}
	return api.Expr{Kind: kind, Op: op, Kids: sides}
}

// isOperation tells whether an expression is a node of this operation. (Functions have an Op of their own.)
func isOperation(e api.Expr, op int) bool {
	return (e.Kind == api.EUn || e.Kind == api.EBin) && e.Op == op
}

func number(n int64) api.Value { return api.Value{Kind: api.KInt, Int: n} }

func truth(b bool) api.Value { return api.Value{Kind: api.KBool, Bool: b} }
