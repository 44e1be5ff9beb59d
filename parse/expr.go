package parse

import (
	"refrain/api"
	"refrain/tree"
)

// The levels of the operations, which are the grammar's rules.
const (
	orLevel = 1 + iota
	andLevel
	notLevel
	relLevel
	sumLevel
	productLevel
	signLevel
)

// operation is how one is written, and on which level.
type operation struct {
	sign  string
	level int
}

var operations = [...]operation{
	api.OOr:  {"OR", orLevel},
	api.OAnd: {"AND", andLevel},
	api.ONot: {"NOT", notLevel},
	api.OEq:  {"=", relLevel},
	api.ONe:  {"!=", relLevel},
	api.OLt:  {"<", relLevel},
	api.OLe:  {"<=", relLevel},
	api.OGt:  {">", relLevel},
	api.OGe:  {">=", relLevel},
	api.OAdd: {"+", sumLevel},
	api.OSub: {"-", sumLevel},
	api.OMul: {"*", productLevel},
	api.ONeg: {"-", signLevel},
}

// bounded reads an expression that is part of no other one. Its size is looked at as soon as it has ended, ahead of the token behind it.
func (r *reader) bounded() api.Expr {
	at := r.at()
	e := r.expr()
	nodes, depth := tree.Size(e)
	if nodes > api.MaxNodes {
		panic(fault{api.ErrLong, at})
	}
	if depth > api.MaxDepth {
		panic(fault{api.ErrDeep, at})
	}
	return e
}

func (r *reader) expr() api.Expr { return r.row(orLevel, r.and) }

func (r *reader) and() api.Expr { return r.row(andLevel, r.not) }

func (r *reader) not() api.Expr { return r.ahead(notLevel, r.not, r.rel) }

func (r *reader) rel() api.Expr {
	e := r.sum()
	if op := r.operation(relLevel); op > 0 {
		return binary(op, e, r.sum())
	}
	return e
}

func (r *reader) sum() api.Expr { return r.row(sumLevel, r.product) }

func (r *reader) product() api.Expr { return r.row(productLevel, r.sign) }

func (r *reader) sign() api.Expr { return r.ahead(signLevel, r.sign, r.prime) }

// row reads operands with operations of one level between them, which lead from the left.
func (r *reader) row(level int, operand func() api.Expr) api.Expr {
	e := operand()
	for op := r.operation(level); op > 0; op = r.operation(level) {
		e = binary(op, e, operand())
	}
	return e
}

// ahead reads an operation of this level with its operand behind it, or else what stands there without one.
func (r *reader) ahead(level int, operand, bare func() api.Expr) api.Expr {
	if op := r.operation(level); op > 0 {
		return api.Expr{Kind: api.EUn, Op: op, Kids: []api.Expr{operand()}}
	}
	return bare()
}

// operation goes by an operation of this level, if one is ahead, and tells which: 0, if none is.
func (r *reader) operation(level int) int {
	for op, o := range operations {
		if o.level == level && r.passes(o.sign) {
			return op
		}
	}
	return 0
}

func (r *reader) prime() api.Expr {
	switch kind := r.toks[0].Kind; {
	case kind == api.TInt:
		return literal(api.Value{Kind: api.KInt, Int: r.number()})
	case kind == api.TStr:
		return literal(api.Value{Kind: api.KStr, Str: r.take(api.TStr)})
	case r.passes("TRUE"):
		return literal(api.Value{Kind: api.KBool, Bool: true})
	case r.passes("FALSE"):
		return literal(api.Value{Kind: api.KBool})
	case r.passes("("):
		e := r.expr()
		r.pass(")")
		return e
	}
	name := r.name()
	// A function's word is a name like others, but for the bracket.
	if function := functionOf(name); function > 0 && r.passes("(") {
		return r.agg(function)
	}
	return r.ref(name)
}

// ref reads a reference behind its variable.
func (r *reader) ref(variable string) api.Expr {
	e := api.Expr{Kind: api.ERef, Var: variable, At: api.AtOne}
	if r.passes("[") {
		e.At = r.place()
		r.pass("]")
	}
	r.pass(".")
	e.Attr = r.name()
	return e
}

func (r *reader) place() int {
	switch {
	case r.passes("first"):
		return api.AtFirst
	case r.passes("last"):
		return api.AtLast
	}
	r.pass("i")
	if r.is("]") {
		return api.AtCur
	}
	r.minusOne()
	return api.AtPrev
}

func (r *reader) minusOne() {
	r.pass("-")
	if r.toks[0].Text != "1" {
		r.refuse()
	}
	r.take(api.TInt)
}

// agg reads a function behind its bracket.
func (r *reader) agg(function int) api.Expr {
	e := api.Expr{Kind: api.EAgg, Op: function, Var: r.name(), At: api.AtAll}
	if r.passes("[") {
		r.before()
		e.At = api.AtBefore
	}
	if function != api.FCount {
		r.pass(".")
		e.Attr = r.name()
	}
	r.pass(")")
	return e
}

// before reads `..i-1` and the bracket behind it.
func (r *reader) before() {
	r.pass("..", "i")
	r.minusOne()
	r.pass("]")
}

// functionOf tells a word's function: 0, if it has none.
func functionOf(word string) int {
	switch word {
	case "count":
		return api.FCount
	case "sum":
		return api.FSum
	case "min":
		return api.FMin
	case "max":
		return api.FMax
	}
	return 0
}

func binary(op int, left, right api.Expr) api.Expr {
	return api.Expr{Kind: api.EBin, Op: op, Kids: []api.Expr{left, right}}
}

func literal(v api.Value) api.Expr { return api.Expr{Kind: api.ELit, Val: v} }
