package value

import "refrain/api"

// Sets of kinds: a bit a kind.
const (
	numbers = 1 << api.KInt
	texts   = 1 << api.KStr
	truths  = 1 << api.KBool
)

// What an operation does.
const (
	negates  = 1 + iota // a number
	turns               // a truth value
	reckons             // two numbers: a number
	compares            // two values of one kind: a truth value
	joins               // two truth values: a truth value
)

// operation is how many values an operation wants, of which kinds (all of one), and what it does.
type operation struct {
	sides int
	kinds int
	does  int
}

var operations = [...]operation{
	api.ONeg: {1, numbers, negates},
	api.ONot: {1, truths, turns},
	api.OAdd: {2, numbers, reckons},
	api.OSub: {2, numbers, reckons},
	api.OMul: {2, numbers, reckons},
	api.OEq:  {2, numbers | texts | truths, compares},
	api.ONe:  {2, numbers | texts | truths, compares},
	api.OLt:  {2, numbers | texts, compares},
	api.OLe:  {2, numbers | texts, compares},
	api.OGt:  {2, numbers | texts, compares},
	api.OGe:  {2, numbers | texts, compares},
	api.OAnd: {2, truths, joins},
	api.OOr:  {2, truths, joins},
}

// Unary carries out an operation on one value.
func Unary(op int, v api.Value) (api.Value, api.Errno) {
	does, err := work(op, v)
	if err != api.OK {
		return api.Value{}, err
	}
	if does == negates {
		return number(-v.Int), api.OK
	}
	return truth(!v.Bool), api.OK
}

// Binary carries out an operation on two values.
func Binary(op int, a, b api.Value) (api.Value, api.Errno) {
	does, err := work(op, a, b)
	if err != api.OK {
		return api.Value{}, err
	}
	switch does {
	case reckons:
		return number(reckon(op, a.Int, b.Int)), api.OK
	case compares:
		return truth(holds(op, Compare(a, b))), api.OK
	}
	return truth(join(op, a.Bool, b.Bool)), api.OK
}

// work tells what an operation does, if it can be done with these values.
func work(op int, sides ...api.Value) (int, api.Errno) {
	if op < 0 || op >= len(operations) || operations[op].sides != len(sides) {
		return 0, api.ErrOp
	}
	for _, v := range sides {
		if !Valid(v) {
			return 0, api.ErrValue
		}
	}
	for _, v := range sides {
		if v.Kind != sides[0].Kind || operations[op].kinds&(1<<v.Kind) == 0 {
			return 0, api.ErrKind
		}
	}
	return operations[op].does, api.OK
}

func reckon(op int, a, b int64) int64 {
	switch op {
	case api.OSub: // the sum with the opposite, which wraps to the same number
		b = -b
		fallthrough
	case api.OAdd:
		return a + b
	}
	return a * b
}

// holds tells whether a comparison is true of two values that stand in this order.
func holds(op, order int) bool {
	turned := false
	switch op {
	case api.ONe:
		turned = true
		fallthrough
	case api.OEq:
		return (order == 0) != turned
	case api.OLe:
		if order == 0 {
			return true
		}
		fallthrough
	case api.OLt:
		return order < 0
	case api.OGe:
		if order == 0 {
			return true
		}
		fallthrough
	default: // api.OGt
		return order > 0
	}
}

func join(op int, a, b bool) bool {
	if op == api.OAnd {
		return a && b
	}
	return a || b
}
