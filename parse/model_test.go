package parse_test

import (
	"slices"
	"strconv"
	"strings"

	"refrain/api"
	"refrain/token"
	"refrain/tree"
)

// What the chapter says, once more and in another way than the program: whether tokens may follow one another is asked of the grammar itself, and a tree is made by splitting tokens at what is done last.

// grammar is that of doc/00-meaning.md, a rule a line.
const grammar = `
query = "PATTERN" "SEQ" "(" comp { "," comp } ")" [ "PARTITION" "BY" NAME ] [ "WHERE" strategy [ "{" cond { "," cond } "}" ] ] "WITHIN" INT "RETURN" [ NAME ] "(" item { "," item } ")"
comp = NAME NAME | NAME "+" NAME "[" "]" | "!" "(" NAME NAME ")"
strategy = "any" | "next" | "strict"
cond = "[" NAME "]" | expr
item = NAME "=" expr
expr = and { "OR" and }
and = not { "AND" not }
not = "NOT" not | rel
rel = sum [ ( "=" | "!=" | "<" | "<=" | ">" | ">=" ) sum ]
sum = product { ( "+" | "-" ) product }
product = sign { "*" sign }
sign = "-" sign | prime
prime = INT | STRING | "TRUE" | "FALSE" | ref | agg | "(" expr ")"
ref = NAME "." NAME | NAME "[" place "]" "." NAME
place = "i" | "i" "-" "1" | "first" | "last"
agg = "count" "(" NAME [ before ] ")" | ( "sum" | "min" | "max" ) "(" NAME [ before ] "." NAME ")"
before = "[" ".." "i" "-" "1" "]"
`

// rules are the grammar's without its brackets: of each name the rows of symbols for which it may stand.
type rules map[string][][]string

var language = readGrammar()

func readGrammar() rules {
	g := rules{}
	for rule := range strings.Lines(strings.TrimSpace(grammar)) {
		name, right, _ := strings.Cut(rule, " = ")
		g[name], _ = g.choice(strings.Fields(right))
	}
	return g
}

// choice reads rows of symbols up to the bracket that closes them, and gives what is behind that. What stands in brackets gets a name of its own.
func (g rules) choice(words []string) (rows [][]string, rest []string) {
	var row []string
	for len(words) > 0 {
		word := words[0]
		words = words[1:]
		switch word {
		case "}", "]", ")":
			return append(rows, row), words
		case "|":
			rows, row = append(rows, row), nil
		case "{", "[", "(":
			name := "group " + strconv.Itoa(len(g))
			g[name] = nil
			g[name], words = g.choice(words)
			for i := range g[name] {
				if word == "{" {
					g[name][i] = append(g[name][i], name)
				}
			}
			if word != "(" {
				g[name] = append(g[name], nil)
			}
			row = append(row, name)
		default:
			row = append(row, word)
		}
	}
	return append(rows, row), nil
}

// stack is what must still come, the first symbol on top, the text's end below all.
type stack struct {
	symbol string
	below  *stack
}

// begin gives the stacks with which a text of that rule begins.
func (g rules) begin(rule string) []*stack { return g.open(&stack{rule, &stack{"END", nil}}) }

// open gives what a stack may be with a token on top.
func (g rules) open(s *stack) []*stack {
	rows, ok := g[s.symbol]
	if !ok {
		return []*stack{s}
	}
	var all []*stack
	for _, row := range rows {
		below := s.below
		for _, symbol := range slices.Backward(row) {
			below = &stack{symbol, below}
		}
		all = append(all, g.open(below)...)
	}
	return all
}

// behind gives what must come behind a token: nothing, if it may not stand there.
func (g rules) behind(stacks []*stack, tok api.Tok) []*stack {
	var all []*stack
	for _, s := range stacks {
		switch {
		case !fits(s.symbol, tok):
		case s.below == nil:
			all = append(all, s)
		default:
			all = append(all, g.open(s.below)...)
		}
	}
	return all
}

func fits(symbol string, tok api.Tok) bool {
	switch symbol {
	case "NAME":
		return tok.Kind == api.TWord && !token.Word(tok.Text)
	case "INT":
		return tok.Kind == api.TInt
	case "STRING":
		return tok.Kind == api.TStr
	case "END":
		return tok.Kind == api.TEnd
	case `"1"`:
		return tok.Kind == api.TInt && tok.Text == "1"
	}
	return (tok.Kind == api.TWord || tok.Kind == api.TSign) && symbol == `"`+tok.Text+`"`
}

// wrong tells the first token that may not stand where it does: how many there are, if none.
func (g rules) wrong(rule string, toks []api.Tok) int {
	stacks := g.begin(rule)
	for i, tok := range toks {
		if stacks = g.behind(stacks, tok); len(stacks) == 0 {
			return i
		}
	}
	return len(toks)
}

// whole tells whether tokens, with the end behind them, are all of that rule.
func (g rules) whole(rule string, toks []api.Tok) bool {
	toks = append(slices.Clone(toks), api.Tok{Kind: api.TEnd})
	return g.wrong(rule, toks) == len(toks)
}

// modelFault tells the first fault of a text of that rule, and its place; and the text's tokens without the end.
func modelFault(rule, text string) (toks []api.Tok, at int, err api.Errno) {
	toks, at, err = token.Scan(text)
	if err != api.OK {
		return nil, at, err
	}
	wrong := language.wrong(rule, toks)
	for _, piece := range ended(rule, toks[:wrong]) {
		nodes, depth := tree.Size(modelExpr(piece))
		switch {
		case nodes > 256:
			return nil, piece[0].At, api.ErrLong
		case depth > 32:
			return nil, piece[0].At, api.ErrDeep
		}
	}
	if wrong < len(toks) {
		return nil, toks[wrong].At, api.ErrWant
	}
	return toks[:len(toks)-1], 0, api.OK
}

// ended gives the tokens of each whole condition and item's expression.
func ended(rule string, toks []api.Tok) [][]api.Tok {
	pieces := [][]api.Tok{toks}
	if rule == "query" {
		_, where := cut(toks, "{")
		conds, _ := cut(where, "}")
		_, items := cut(toks, "RETURN")
		_, items = cut(items, "(")
		pieces = split(conds)
		for _, item := range split(items) {
			if len(item) > 2 {
				pieces = append(pieces, item[2:])
			}
		}
	}
	var all [][]api.Tok
	for _, piece := range pieces {
		last := len(piece) - 1
		// The end, or the bracket behind all items.
		if last > 0 && piece[last].Kind == api.TEnd {
			last--
		}
		if last > 0 && is(piece[last], ")") && language.whole("expr", piece[:last]) {
			last--
		}
		if piece = piece[:last+1]; language.whole("expr", piece) {
			all = append(all, piece)
		}
	}
	return all
}

func is(tok api.Tok, text string) bool {
	return tok.Text == text && (tok.Kind == api.TWord || tok.Kind == api.TSign)
}

// cut gives the tokens ahead of the first one of that text, and those behind it.
func cut(toks []api.Tok, text string) (ahead, behind []api.Tok) {
	i := slices.IndexFunc(toks, func(tok api.Tok) bool { return is(tok, text) })
	if i < 0 {
		return toks, nil
	}
	return toks[:i], toks[i+1:]
}

// split gives the tokens between commas.
func split(toks []api.Tok) [][]api.Tok {
	var all [][]api.Tok
	for len(toks) > 0 {
		var piece []api.Tok
		piece, toks = cut(toks, ",")
		all = append(all, piece)
	}
	return all
}

// modelQuery makes the tree of a query's tokens, which are whole.
func modelQuery(toks []api.Tok) (q api.Query, s api.Spots) {
	head, tail := cut(toks, "WITHIN")
	head, where := cut(head, "WHERE")
	head, part := cut(head, "PARTITION")
	for _, c := range split(head[3 : len(head)-1]) {
		s.Comps = append(s.Comps, c[0].At)
		switch len(c) {
		case 2:
			q.Comps = append(q.Comps, api.Comp{Type: c[0].Text, Var: c[1].Text})
		case 5:
			q.Comps = append(q.Comps, api.Comp{Neg: is(c[0], "!"), Plus: is(c[1], "+"), Type: c[0].Text, Var: c[2].Text})
		}
		if last := &q.Comps[len(q.Comps)-1]; last.Neg {
			last.Type, last.Var = c[2].Text, c[3].Text
		}
	}
	if part != nil {
		q.Part, s.Part = part[1].Text, part[1].At
	}
	q.Strategy = api.Any
	if where != nil {
		q.Strategy = map[string]int{"any": api.Any, "next": api.Next, "strict": api.Strict}[where[0].Text]
	}
	_, conds := cut(where, "{")
	conds, _ = cut(conds, "}")
	for _, c := range split(conds) {
		if is(c[0], "[") {
			q.Equiv, s.Equiv = append(q.Equiv, c[1].Text), append(s.Equiv, c[0].At)
		} else {
			q.Where, s.Where = append(q.Where, modelExpr(c)), append(s.Where, c[0].At)
		}
	}
	q.Within, s.Within = modelNumber(tail[0]), tail[0].At
	if !is(tail[2], "(") {
		q.Out, s.Out = tail[2].Text, tail[2].At
	}
	_, items := cut(tail, "(")
	for _, c := range split(items[:len(items)-1]) {
		q.Items, s.Items = append(q.Items, api.Item{Name: c[0].Text, Expr: modelExpr(c[2:])}), append(s.Items, c[0].At)
	}
	return q, s
}

func modelNumber(tok api.Tok) int64 {
	n := int64(0)
	for _, c := range tok.Text {
		n = n*10 + int64(c-'0')
	}
	return n
}

// modelExpr makes the tree of an expression's tokens, which are whole: they are split at the operation that is done last.
func modelExpr(toks []api.Tok) api.Expr {
	for _, level := range []map[string]int{
		{"OR": api.OOr}, {"AND": api.OAnd}, {"NOT": api.ONot},
		{"=": api.OEq, "!=": api.ONe, "<": api.OLt, "<=": api.OLe, ">": api.OGt, ">=": api.OGe},
		{"+": api.OAdd, "-": api.OSub}, {"*": api.OMul},
	} {
		depth := 0
		for i, tok := range slices.Backward(toks) {
			switch {
			case is(tok, ")"), is(tok, "]"):
				depth++
			case is(tok, "("), is(tok, "["):
				depth--
			}
			op := level[tok.Text]
			switch {
			case depth > 0, op == 0, tok.Kind != api.TWord && tok.Kind != api.TSign:
			case op == api.ONot && i == 0:
				return un(op, modelExpr(toks[1:]))
			case i > 0 && endsOperand(toks[i-1]):
				return bin(op, modelExpr(toks[:i]), modelExpr(toks[i+1:]))
			}
		}
	}
	if is(toks[0], "-") {
		return un(api.ONeg, modelExpr(toks[1:]))
	}
	return modelPrime(toks)
}

func endsOperand(tok api.Tok) bool {
	switch tok.Kind {
	case api.TWord:
		return tok.Text != "AND" && tok.Text != "OR" && tok.Text != "NOT"
	case api.TSign:
		return tok.Text == ")"
	}
	return true
}

func modelPrime(toks []api.Tok) api.Expr {
	first, last := toks[0], toks[len(toks)-1]
	rest := ""
	for _, tok := range toks[1:] {
		rest += tok.Text
	}
	switch {
	case first.Kind == api.TInt:
		return number(modelNumber(first))
	case first.Kind == api.TStr:
		return text(first.Text)
	case is(first, "TRUE"), is(first, "FALSE"):
		return truth(is(first, "TRUE"))
	case is(first, "("):
		return modelExpr(toks[1 : len(toks)-1])
	case strings.HasPrefix(rest, "("):
		e := call(map[string]int{"count": api.FCount, "sum": api.FSum, "min": api.FMin, "max": api.FMax}[first.Text], toks[2].Text, api.AtAll, "")
		if strings.Contains(rest, "[..i-1]") {
			e.At = api.AtBefore
		}
		if e.Op != api.FCount {
			e.Attr = toks[len(toks)-2].Text
		}
		return e
	}
	at, _ := strings.CutSuffix(rest, "."+last.Text)
	return ref(first.Text, map[string]int{"": api.AtOne, "[i]": api.AtCur, "[i-1]": api.AtPrev, "[first]": api.AtFirst, "[last]": api.AtLast}[at], last.Text)
}
