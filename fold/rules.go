package fold

import (
	"math"

	"refrain/api"
	"refrain/tree"
)

// gift makes, of a side of a node, what takes the node's place.
type gift func(x api.Expr) api.Expr

func itself(x api.Expr) api.Expr { return x }

func always(c api.Value) gift {
	return func(api.Expr) api.Expr { return written(c) }
}

func under(op int) gift {
	return func(x api.Expr) api.Expr { return operation(op, x) }
}

// twice: op op x is x.
func twice(op int) rule {
	return rule{op, func(kids []api.Expr) (api.Expr, bool) {
		if !isOperation(kids[0], op) {
			return api.Expr{}, false
		}
		return kids[0].Kids[0], true
	}}
}

// opposite: op (x inner y) is y inner x.
func opposite(op, inner int) rule {
	return rule{op, func(kids []api.Expr) (api.Expr, bool) {
		if !isOperation(kids[0], inner) {
			return api.Expr{}, false
		}
		x, y := kids[0].Kids[0], kids[0].Kids[1]
		return operation(inner, y, x), true
	}}
}

// turned: NOT x from y is x to y.
func turned(from, to int) rule {
	return rule{api.ONot, func(kids []api.Expr) (api.Expr, bool) {
		if !isOperation(kids[0], from) {
			return api.Expr{}, false
		}
		x, y := kids[0].Kids[0], kids[0].Kids[1]
		return operation(to, x, y), true
	}}
}

// ahead: c op x is what x gives.
func ahead(c api.Value, op int, gives gift) rule {
	return rule{op, func(kids []api.Expr) (api.Expr, bool) {
		if !isConstant(kids[0], c) {
			return api.Expr{}, false
		}
		return gives(kids[1]), true
	}}
}

// behind: x op c is what x gives.
func behind(op int, c api.Value, gives gift) rule {
	return rule{op, func(kids []api.Expr) (api.Expr, bool) {
		if !isConstant(kids[1], c) {
			return api.Expr{}, false
		}
		return gives(kids[0]), true
	}}
}

// twins: x op x is what x gives.
func twins(op int, gives gift) rule {
	return rule{op, func(kids []api.Expr) (api.Expr, bool) {
		if !tree.Equal(kids[0], kids[1]) {
			return api.Expr{}, false
		}
		return gives(kids[0]), true
	}}
}

// swapped: c from x is x to c, where x is no constant.
func swapped(from, to int) rule {
	return rule{from, func(kids []api.Expr) (api.Expr, bool) {
		_, first := constant(kids[0])
		_, second := constant(kids[1])
		if !first || second {
			return api.Expr{}, false
		}
		return operation(to, kids[1], kids[0]), true
	}}
}

// sum: (x + c) op d, where op is + or -, is x plus both, and so with x - c.
func sum(op int) rule {
	return rule{op, func(kids []api.Expr) (api.Expr, bool) {
		first, d, outer := added(operation(op, kids...))
		x, c, inner := added(first)
		if !outer || !inner {
			return api.Expr{}, false
		}
		return plus(x, c+d), true
	}}
}

// product: (x op c) op d is x op w(c * d); the rules of op by 0 and by 1 say the rest.
func product(op int) rule {
	return rule{op, func(kids []api.Expr) (api.Expr, bool) {
		d, outer := constantNumber(kids[1])
		if !outer || !isOperation(kids[0], op) {
			return api.Expr{}, false
		}
		c, inner := constantNumber(kids[0].Kids[1])
		if !inner {
			return api.Expr{}, false
		}
		return operation(op, kids[0].Kids[0], written(number(c*d))), true
	}}
}

// signBehind: x from -y is x to y.
func signBehind(from, to int) rule {
	return rule{from, func(kids []api.Expr) (api.Expr, bool) {
		if !isOperation(kids[1], api.ONeg) {
			return api.Expr{}, false
		}
		return operation(to, kids[0], kids[1].Kids[0]), true
	}}
}

// signAhead: -x from y is y to x.
func signAhead(from, to int) rule {
	return rule{from, func(kids []api.Expr) (api.Expr, bool) {
		if !isOperation(kids[0], api.ONeg) {
			return api.Expr{}, false
		}
		return operation(to, kids[1], kids[0].Kids[0]), true
	}}
}

// moved: (x + c) op d is x op w(d - c), and so with x - c.
func moved(op int) rule {
	return rule{op, func(kids []api.Expr) (api.Expr, bool) {
		d, outer := constantNumber(kids[1])
		x, c, inner := added(kids[0])
		if !outer || !inner {
			return api.Expr{}, false
		}
		return operation(op, x, written(number(d-c))), true
	}}
}

// added tells of x + c and of x - c, where c is a number: x, and what is added to it.
func added(e api.Expr) (api.Expr, int64, bool) {
	if !isOperation(e, api.OAdd) && !isOperation(e, api.OSub) {
		return api.Expr{}, 0, false
	}
	c, ok := constantNumber(e.Kids[1])
	if !ok {
		return api.Expr{}, 0, false
	}
	if e.Op == api.OSub {
		c = -c
	}
	return e.Kids[0], c, true
}

// plus gives x with a number added to it.
func plus(x api.Expr, n int64) api.Expr {
	switch {
	case n == 0:
		return x
	case n < 0 && n != math.MinInt64: // the least number has no opposite
		return operation(api.OSub, x, written(number(-n)))
	}
	return operation(api.OAdd, x, written(number(n)))
}
