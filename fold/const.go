package fold

import (
	"math"
	"slices"

	"refrain/api"
	"refrain/shape"
	"refrain/value"
)

// constant tells the value of a constant. Any tree may be asked: nodes are gone through from the last one on, so that operands are met ahead of their operation, and no calls are nested however deep the tree is.
func constant(e api.Expr) (api.Value, bool) {
	nodes, ok := constantNodes(e)
	if !ok {
		return api.Value{}, false
	}
	// The operands whose operation is still to come, the leftmost one last.
	var known []api.Value
	for _, node := range slices.Backward(nodes) {
		v, err, rest := node.Val, api.OK, len(known)
		switch node.Kind {
		case api.EUn:
			rest--
			v, err = value.Unary(node.Op, known[rest])
		case api.EBin:
			rest -= 2
			v, err = value.Binary(node.Op, known[rest+1], known[rest])
		}
		if err != api.OK {
			return api.Value{}, false
		}
		known = append(known[:rest], v)
	}
	return known[0], true
}

// constantNodes gives an expression's nodes, each ahead of its Kids, if all of them are such as a constant may have.
func constantNodes(e api.Expr) ([]*api.Expr, bool) {
	var nodes []*api.Expr
	w := shape.Over(e)
	for _, node := range w.Nodes() {
		switch {
		case node.Kind == api.ELit && value.Valid(node.Val):
			w.PassKids()
		case node.Kind == api.EUn && len(node.Kids) == 1:
		case node.Kind == api.EBin && len(node.Kids) == 2:
		default:
			return nil, false
		}
		nodes = append(nodes, node)
	}
	return nodes, true
}

// constantNumber tells the value of a constant that is a number.
func constantNumber(e api.Expr) (int64, bool) {
	v, ok := constant(e)
	return v.Int, ok && v.Kind == api.KInt
}

// isConstant tells whether an expression is a constant of this value.
func isConstant(e api.Expr, c api.Value) bool {
	v, ok := constant(e)
	return ok && v == c
}

// written gives a constant as it is written: literals are not below 0.
func written(v api.Value) api.Expr {
	if v.Kind != api.KInt || v.Int >= 0 {
		return api.Expr{Kind: api.ELit, Val: v}
	}
	if v.Int == math.MinInt64 { // its opposite is no number
		return operation(api.OAdd, written(number(math.MaxInt64)), written(number(1)))
	}
	return operation(api.ONeg, written(number(-v.Int)))
}
