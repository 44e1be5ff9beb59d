package tree_test

import (
	"reflect"
	"slices"
	"strconv"
	"strings"

	"refrain/api"
	"refrain/schema"
	"refrain/token"
	"refrain/value"
)

// What the chapter says, once more and in another way than the program: texts are written outright, and read again by the grammar of doc/00-meaning.md.

// sameExpr tells whether two expressions are the same.
func sameExpr(a, b api.Expr) bool {
	kids := slices.EqualFunc(a.Kids, b.Kids, sameExpr)
	a.Kids, b.Kids = nil, nil
	return kids && reflect.DeepEqual(a, b)
}

func sameItem(a, b api.Item) bool { return a.Name == b.Name && sameExpr(a.Expr, b.Expr) }

// sameQuery tells whether two queries are the same.
func sameQuery(a, b api.Query) bool {
	return slices.Equal(a.Comps, b.Comps) && a.Part == b.Part && a.Strategy == b.Strategy && slices.Equal(a.Equiv, b.Equiv) && slices.EqualFunc(a.Where, b.Where, sameExpr) && a.Within == b.Within && a.Out == b.Out && slices.EqualFunc(a.Items, b.Items, sameItem)
}

// modelSize is what Size is to answer.
func modelSize(e api.Expr) (nodes, depth int) {
	for _, kid := range e.Kids {
		n, d := modelSize(kid)
		nodes += n
		depth = max(depth, d)
	}
	return nodes + 1, depth + 1
}

// modelRefs is what Refs is to answer.
func modelRefs(e api.Expr) []api.Ref {
	switch e.Kind {
	case api.ELit:
		return nil
	case api.ERef:
		return []api.Ref{{Var: e.Var, At: e.At, Attr: e.Attr}}
	case api.EAgg:
		return []api.Ref{{Var: e.Var, At: e.At, Attr: e.Attr, Fn: e.Op}}
	}
	var refs []api.Ref
	for _, kid := range e.Kids {
		refs = append(refs, modelRefs(kid)...)
	}
	return refs
}

// modelFormed tells whether the form of an expression is right.
func modelFormed(e api.Expr) bool {
	only := api.Expr{Kind: e.Kind, Kids: e.Kids}
	kids, may := 0, false
	switch e.Kind {
	case api.ELit:
		only.Val = e.Val
		may = value.Valid(e.Val) && (e.Val.Kind != api.KInt || e.Val.Int >= 0)
	case api.ERef:
		only.Var, only.At, only.Attr = e.Var, e.At, e.Attr
		may = schema.Name(e.Var) && schema.Name(e.Attr) && slices.Contains([]int{api.AtOne, api.AtCur, api.AtPrev, api.AtFirst, api.AtLast}, e.At)
	case api.EAgg:
		only.Op, only.Var, only.At, only.Attr = e.Op, e.Var, e.At, e.Attr
		may = schema.Name(e.Var) && slices.Contains([]int{api.AtAll, api.AtBefore}, e.At)
		may = may && (e.Op == api.FCount && e.Attr == "" || slices.Contains([]int{api.FSum, api.FMin, api.FMax}, e.Op) && schema.Name(e.Attr))
	case api.EUn:
		only.Op, kids = e.Op, 1
		may = e.Op == api.ONeg || e.Op == api.ONot
	case api.EBin:
		only.Op, kids = e.Op, 2
		may = slices.Contains([]int{api.OAdd, api.OSub, api.OMul, api.OEq, api.ONe, api.OLt, api.OLe, api.OGt, api.OGe, api.OAnd, api.OOr}, e.Op)
	}
	return may && len(e.Kids) == kids && sameExpr(e, only) && !slices.ContainsFunc(e.Kids, func(kid api.Expr) bool { return !modelFormed(kid) })
}

// modelFault is an expression's fault.
func modelFault(e api.Expr) api.Errno {
	nodes, depth := modelSize(e)
	switch {
	case depth > 32:
		return api.ErrDeep
	case nodes > 256:
		return api.ErrLong
	case !modelFormed(e):
		return api.ErrTree
	}
	return api.OK
}

// modelText is the text of an expression at a place that wants this level.
func modelText(e api.Expr, wanted int) string {
	text, level := "", 8
	switch e.Kind {
	case api.ELit:
		text, _ = value.Show(e.Val)
	case api.ERef:
		text = e.Var + []string{"", "", "[i]", "[i-1]", "[first]", "[last]"}[e.At] + "." + e.Attr
	case api.EAgg:
		of := e.Var + strings.Repeat("[..i-1]", e.At-api.AtAll)
		if e.Op != api.FCount {
			of += "." + e.Attr
		}
		text = strings.Fields("count sum min max")[e.Op-1] + "(" + of + ")"
	case api.EUn:
		if level = 7; e.Op == api.ONot {
			level = 3
		}
		text = modelText(e.Kids[0], level)
		switch {
		case e.Op == api.ONot:
			text = "NOT " + text
		case text[0] == '-':
			text = "- " + text
		default:
			text = "-" + text
		}
	case api.EBin:
		level = []int{5, 5, 6, 4, 4, 4, 4, 4, 4, 2, 1}[e.Op-api.OAdd]
		left := level
		if level == 4 { // relations do not chain
			left = 5
		}
		sign := strings.Fields("+ - * = != < <= > >= AND OR")[e.Op-api.OAdd]
		text = modelText(e.Kids[0], left) + " " + sign + " " + modelText(e.Kids[1], level+1)
	}
	if level < wanted {
		return "(" + text + ")"
	}
	return text
}

// modelQuery is the text of a query.
func modelQuery(q api.Query) string {
	list := func(n int, element func(i int) string) string {
		var l []string
		for i := range n {
			l = append(l, element(i))
		}
		return strings.Join(l, ", ")
	}
	parts := []string{"PATTERN SEQ(" + list(len(q.Comps), func(i int) string {
		c := q.Comps[i]
		if c.Neg {
			return "!(" + c.Type + " " + c.Var + ")"
		}
		if c.Plus {
			return c.Type + "+ " + c.Var + "[]"
		}
		return c.Type + " " + c.Var
	}) + ")"}
	if q.Part != "" {
		parts = append(parts, "PARTITION BY", q.Part)
	}
	conds := len(q.Equiv) + len(q.Where)
	if q.Strategy != api.Any || conds > 0 {
		parts = append(parts, "WHERE", strings.Fields("any next strict")[q.Strategy-1])
	}
	if conds > 0 {
		parts = append(parts, "{", list(conds, func(i int) string {
			if i < len(q.Equiv) {
				return "[" + q.Equiv[i] + "]"
			}
			return modelText(q.Where[i-len(q.Equiv)], 1)
		}), "}")
	}
	items := "(" + list(len(q.Items), func(i int) string { return q.Items[i].Name + " = " + modelText(q.Items[i].Expr, 1) }) + ")"
	parts = append(parts, "WITHIN", strconv.FormatInt(q.Within, 10), "RETURN", q.Out+items)
	return strings.Join(parts, " ")
}

// A reader reads a text by the grammar. bad: it was not of the grammar.
type reader struct {
	toks []api.Tok
	bad  bool
}

func readerOf(text string) *reader {
	toks, _, err := token.Scan(text)
	return &reader{toks, err != api.OK}
}

// at tells whether these tokens are ahead: words and signs.
func (r *reader) at(texts ...string) bool {
	for i, text := range texts {
		if i >= len(r.toks) || r.toks[i].Text != text || r.toks[i].Kind != api.TWord && r.toks[i].Kind != api.TSign {
			return false
		}
	}
	return true
}

// pass goes by these tokens, if they are ahead.
func (r *reader) pass(texts ...string) bool {
	if !r.at(texts...) {
		return false
	}
	r.toks = r.toks[len(texts):]
	return true
}

func (r *reader) want(texts ...string) {
	if !r.pass(texts...) {
		r.bad = true
	}
}

// kind goes by a token of this kind and gives its text.
func (r *reader) kind(kind int) string {
	if len(r.toks) == 0 || r.toks[0].Kind != kind {
		r.bad = true
		return ""
	}
	text := r.toks[0].Text
	r.toks = r.toks[1:]
	return text
}

func (r *reader) name() string {
	name := r.kind(api.TWord)
	r.bad = r.bad || token.Word(name)
	return name
}

func (r *reader) number() int64 {
	n, err := strconv.ParseInt(r.kind(api.TInt), 10, 64)
	r.bad = r.bad || err != nil
	return n
}

// ended tells whether all was read, and nothing was bad.
func (r *reader) ended() bool { return !r.bad && len(r.toks) == 1 && r.toks[0].Kind == api.TEnd }

// sides reads operations that lead from the left.
func (r *reader) sides(side func() api.Expr, ops map[string]int) api.Expr {
	e := side()
again:
	for sign, op := range ops {
		if r.pass(sign) {
			e = bin(op, e, side())
			goto again
		}
	}
	return e
}

func (r *reader) expr() api.Expr { return r.sides(r.and, map[string]int{"OR": api.OOr}) }

func (r *reader) and() api.Expr { return r.sides(r.not, map[string]int{"AND": api.OAnd}) }

func (r *reader) not() api.Expr {
	if r.pass("NOT") {
		return un(api.ONot, r.not())
	}
	e := r.sum()
	for sign, op := range map[string]int{"=": api.OEq, "!=": api.ONe, "<": api.OLt, "<=": api.OLe, ">": api.OGt, ">=": api.OGe} {
		if r.pass(sign) {
			return bin(op, e, r.sum())
		}
	}
	return e
}

func (r *reader) sum() api.Expr {
	return r.sides(r.product, map[string]int{"+": api.OAdd, "-": api.OSub})
}

func (r *reader) product() api.Expr { return r.sides(r.sign, map[string]int{"*": api.OMul}) }

func (r *reader) sign() api.Expr {
	if r.pass("-") {
		return un(api.ONeg, r.sign())
	}
	return r.prime()
}

func (r *reader) prime() api.Expr {
	switch {
	case r.bad || len(r.toks) == 0:
		r.bad = true
		return api.Expr{}
	case r.toks[0].Kind == api.TInt:
		return number(r.number())
	case r.toks[0].Kind == api.TStr:
		return text(r.kind(api.TStr))
	case r.pass("TRUE"):
		return truth(true)
	case r.pass("FALSE"):
		return truth(false)
	case r.pass("("):
		e := r.expr()
		r.want(")")
		return e
	}
	for i, function := range strings.Fields("count sum min max") {
		if r.pass(function, "(") {
			return r.function(i + 1)
		}
	}
	e := ref(r.name(), r.place(), "")
	r.want(".")
	e.Attr = r.name()
	return e
}

func (r *reader) place() int {
	switch {
	case !r.pass("["):
		return api.AtOne
	case r.pass("i", "]"):
		return api.AtCur
	case r.pass("first", "]"):
		return api.AtFirst
	case r.pass("last", "]"):
		return api.AtLast
	}
	r.before()
	return api.AtPrev
}

// before reads what stands for the event ahead of the one that is being taken, behind its bracket.
func (r *reader) before() {
	r.want("i", "-")
	r.bad = r.bad || r.number() != 1
	r.want("]")
}

func (r *reader) function(op int) api.Expr {
	e := call(op, r.name(), api.AtAll, "")
	if r.pass("[", "..") {
		e.At = api.AtBefore
		r.before()
	}
	if op != api.FCount {
		r.want(".")
		e.Attr = r.name()
	}
	r.want(")")
	return e
}

func (r *reader) query() api.Query {
	q := api.Query{Strategy: api.Any}
	r.want("PATTERN", "SEQ", "(")
	for more := true; more && !r.bad; more = r.pass(",") {
		q.Comps = append(q.Comps, r.comp())
	}
	r.want(")")
	if r.pass("PARTITION", "BY") {
		q.Part = r.name()
	}
	if r.pass("WHERE") {
		r.where(&q)
	}
	r.want("WITHIN")
	q.Within = r.number()
	r.want("RETURN")
	if !r.at("(") {
		q.Out = r.name()
	}
	r.want("(")
	for more := true; more && !r.bad; more = r.pass(",") {
		name := r.name()
		r.want("=")
		q.Items = append(q.Items, api.Item{Name: name, Expr: r.expr()})
	}
	r.want(")")
	return q
}

func (r *reader) comp() api.Comp {
	if r.pass("!") {
		r.want("(")
		c := api.Comp{Neg: true, Type: r.name(), Var: r.name()}
		r.want(")")
		return c
	}
	c := api.Comp{Type: r.name()}
	c.Plus = r.pass("+")
	c.Var = r.name()
	if c.Plus {
		r.want("[", "]")
	}
	return c
}

func (r *reader) where(q *api.Query) {
	q.Strategy = 1 + slices.Index(strings.Fields("any next strict"), r.kind(api.TWord))
	if !r.pass("{") {
		return
	}
	for more := true; more && !r.bad; more = r.pass(",") {
		if r.pass("[") {
			q.Equiv = append(q.Equiv, r.name())
			r.want("]")
		} else {
			q.Where = append(q.Where, r.expr())
		}
	}
	r.want("}")
}
