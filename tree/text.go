package tree

import (
	"strconv"

	"refrain/api"
	"refrain/value"
)

// top is the level of what is no operation.
const top = 8

// operation is how one is written: its sign, its level, and the levels that the places of its Kids want.
type operation struct {
	sign  string
	level int
	kids  [2]int
}

var operations = [...]operation{
	api.OOr:  {"OR", 1, [2]int{1, 2}},
	api.OAnd: {"AND", 2, [2]int{2, 3}},
	api.ONot: {"NOT", 3, [2]int{3}},
	api.OEq:  {"=", 4, [2]int{5, 5}},
	api.ONe:  {"!=", 4, [2]int{5, 5}},
	api.OLt:  {"<", 4, [2]int{5, 5}},
	api.OLe:  {"<=", 4, [2]int{5, 5}},
	api.OGt:  {">", 4, [2]int{5, 5}},
	api.OGe:  {">=", 4, [2]int{5, 5}},
	api.OAdd: {"+", 5, [2]int{5, 6}},
	api.OSub: {"-", 5, [2]int{5, 6}},
	api.OMul: {"*", 6, [2]int{6, 7}},
	api.ONeg: {"-", 7, [2]int{7}},
}

// How it is written of which events an expression speaks, behind the variable.
var places = [...]string{api.AtCur: "[i]", api.AtPrev: "[i-1]", api.AtFirst: "[first]", api.AtLast: "[last]", api.AtBefore: "[..i-1]"}

var functions = [...]string{api.FCount: "count", api.FSum: "sum", api.FMin: "min", api.FMax: "max"}

var strategies = [...]string{api.Any: "any", api.Next: "next", api.Strict: "strict"}

// strategyWord tells a strategy's word: "", if it is none.
func strategyWord(strategy int) string {
	if strategy < 0 || strategy >= len(strategies) {
		return ""
	}
	return strategies[strategy]
}

// writer gathers a text; what it writes has no fault. Once that is too long it takes nothing more: what is still to come may be far longer.
type writer struct {
	text []byte
	long bool
}

func (w *writer) add(pieces ...string) {
	for _, piece := range pieces {
		w.long = w.long || len(w.text)+len(piece) > api.MaxText
		if w.long {
			return
		}
		w.text = append(w.text, piece...)
	}
}

// whole gives the text.
func (w *writer) whole() (string, api.Errno) {
	if w.long {
		return "", api.ErrLong
	}
	return string(w.text), api.OK
}

func (w *writer) query(q api.Query) {
	w.add("PATTERN SEQ(")
	for i, c := range q.Comps {
		w.comma(i)
		w.comp(c)
	}
	w.add(")")
	if q.Part != "" {
		w.add(" PARTITION BY ", q.Part)
	}
	w.where(q)
	w.add(" WITHIN ", strconv.FormatInt(q.Within, 10), " RETURN ", q.Out, "(")
	for i, item := range q.Items {
		w.comma(i)
		w.add(item.Name, " = ")
		w.expr(item.Expr)
	}
	w.add(")")
}

// comma stands ahead of each element of a list but the first.
func (w *writer) comma(i int) {
	if i > 0 {
		w.add(", ")
	}
}

func (w *writer) comp(c api.Comp) {
	switch {
	case c.Neg:
		w.add("!(", c.Type, " ", c.Var, ")")
	case c.Plus:
		w.add(c.Type, "+ ", c.Var, "[]")
	default:
		w.add(c.Type, " ", c.Var)
	}
}

func (w *writer) where(q api.Query) {
	bare := len(q.Equiv) == 0 && len(q.Where) == 0
	if bare && q.Strategy == api.Any {
		return
	}
	w.add(" WHERE ", strategyWord(q.Strategy))
	if bare {
		return
	}
	w.add(" { ")
	for i, attr := range q.Equiv {
		w.comma(i)
		w.add("[", attr, "]")
	}
	for i, e := range q.Where {
		w.comma(len(q.Equiv) + i)
		w.expr(e)
	}
	w.add(" }")
}

func (w *writer) expr(e api.Expr) {
	switch e.Kind {
	case api.ELit:
		literal, _ := value.Show(e.Val)
		w.add(literal)
	case api.ERef:
		w.add(e.Var, places[e.At], ".", e.Attr)
	case api.EAgg:
		w.function(e)
	case api.EUn:
		w.add(operations[e.Op].sign)
		// Two minus signs without a blank would begin a comment.
		if e.Op == api.ONot || negates(e.Kids[0]) {
			w.add(" ")
		}
		w.kid(e, 0)
	case api.EBin:
		w.kid(e, 0)
		w.add(" ", operations[e.Op].sign, " ")
		w.kid(e, 1)
	}
}

func (w *writer) function(e api.Expr) {
	w.add(functions[e.Op], "(", e.Var, places[e.At])
	if e.Op != api.FCount {
		w.add(".", e.Attr)
	}
	w.add(")")
}

// kid writes one of an operation's Kids, in brackets where its place wants them.
func (w *writer) kid(e api.Expr, i int) {
	kid := e.Kids[i]
	if level(kid) >= operations[e.Op].kids[i] {
		w.expr(kid)
		return
	}
	w.add("(")
	w.expr(kid)
	w.add(")")
}

func level(e api.Expr) int {
	if e.Kind == api.EUn || e.Kind == api.EBin {
		return operations[e.Op].level
	}
	return top
}

func negates(e api.Expr) bool { return e.Kind == api.EUn && e.Op == api.ONeg }
