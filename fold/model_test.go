package fold_test

import (
	"fmt"
	"math"
	"reflect"
	"regexp"
	"slices"
	"strconv"
	"strings"

	"refrain/api"
	"refrain/value"
)

// What the chapter says, once more and in another way than the program: its rules are texts, which are held against expressions.

// same tells whether two expressions are the same, node by node.
func same(a, b api.Expr) bool {
	for ahead := [][2]api.Expr{{a, b}}; len(ahead) > 0; {
		a, b := ahead[len(ahead)-1][0], ahead[len(ahead)-1][1]
		ahead = ahead[:len(ahead)-1]
		if len(a.Kids) != len(b.Kids) {
			return false
		}
		for i := range a.Kids {
			ahead = append(ahead, [2]api.Expr{a.Kids[i], b.Kids[i]})
		}
		a.Kids, b.Kids = nil, nil
		if !reflect.DeepEqual(a, b) {
			return false
		}
	}
	return true
}

func printed(e api.Expr) string { return fmt.Sprintf("%+.60v", e) }

// pattern is a rule: an expression in which the variables x, y stand for any expression, c, d for constants, and what it becomes.
type pattern struct {
	rule     int
	text     string
	from, to api.Expr
}

// patterns gives the rules from 2 on. Of rule 9 what is answered is x and what is added to it; of rule 10 the rules 8 do the rest.
func patterns() []pattern {
	var all []pattern
	for _, line := range strings.Split(strings.TrimSpace(`
		2 NOT NOT x -> x; - -x -> x; -(x - y) -> y - x
		3 NOT x = y -> x != y; NOT x != y -> x = y; NOT x < y -> x >= y; NOT x >= y -> x < y; NOT x > y -> x <= y; NOT x <= y -> x > y
		4 TRUE AND x -> x; x AND TRUE -> x; FALSE AND x -> FALSE; x AND FALSE -> FALSE
		4 FALSE OR x -> x; x OR FALSE -> x; TRUE OR x -> TRUE; x OR TRUE -> TRUE; x AND x -> x; x OR x -> x
		5 x = x -> TRUE; x <= x -> TRUE; x >= x -> TRUE; x != x -> FALSE; x < x -> FALSE; x > x -> FALSE
		6 c + x -> x + c; c * x -> x * c; c = x -> x = c; c != x -> x != c; c < x -> x > c; c <= x -> x >= c; c > x -> x < c; c >= x -> x <= c
		7 x = TRUE -> x; x != FALSE -> x; x = FALSE -> NOT x; x != TRUE -> NOT x
		8 x + 0 -> x; x - 0 -> x; x * 1 -> x; x - x -> 0; x * 0 -> 0; 0 - x -> -x; x * -1 -> -x
		9 (x + c) + d -> x + (c + d); (x - c) + d -> x + (d - c); (x + c) - d -> x + (c - d); (x - c) - d -> x + (-c - d)
		10 (x * c) * d -> x * (c * d)
		11 x + -y -> x - y; x - -y -> x + y; -x + y -> y - x
		12 (x + c) = d -> x = (d - c); (x + c) != d -> x != (d - c); (x - c) = d -> x = (d + c); (x - c) != d -> x != (d + c)
		`), "\n") {
		rule, texts, _ := strings.Cut(strings.TrimSpace(line), " ")
		for _, one := range strings.Split(texts, ";") {
			number, _ := strconv.Atoi(rule)
			from, to, _ := strings.Cut(one, "->")
			all = append(all, pattern{number, rule + " " + strings.TrimSpace(one), patternExpr(from), patternExpr(to)})
		}
	}
	return all
}

// patternExpr reads a pattern's text: a variable is a reference whose attribute is any.
func patternExpr(s string) api.Expr {
	return expr(regexp.MustCompile(`\b[xycd]\b`).ReplaceAllString(s, "$0.any"))
}

func isVariable(e api.Expr) bool { return e.Kind == api.ERef && e.Attr == "any" }

// fits tells whether an expression is as a pattern says, and what its variables then are.
func (p pattern) fits(at, e api.Expr, is map[string]api.Expr) bool {
	if isVariable(at) {
		if old, known := is[at.Var]; known {
			return same(old, e)
		}
		is[at.Var] = e
		c, constant := modelConst(e)
		switch at.Var {
		case "c", "d":
			return constant && (p.rule < 9 || c.Kind == api.KInt)
		case "x":
			return p.rule != 6 || !constant
		}
		return true
	}
	if at.Kind != e.Kind || at.Op != e.Op || at.Val != e.Val || len(at.Kids) != len(e.Kids) {
		return false
	}
	for i := range at.Kids {
		if !p.fits(at.Kids[i], e.Kids[i], is) {
			return false
		}
	}
	return true
}

// filled gives a pattern with what its variables are; what is constant in it is worked out.
func filled(at api.Expr, is map[string]api.Expr) api.Expr {
	if isVariable(at) {
		return is[at.Var]
	}
	kids := make([]api.Expr, len(at.Kids))
	for i, kid := range at.Kids {
		kids[i] = filled(kid, is)
	}
	at.Kids = kids
	if v, constant := modelConst(at); constant {
		return modelWritten(v)
	}
	return at
}

// model folds by the patterns, and counts which ones it went by.
type model struct {
	patterns []pattern
	used     map[string]int
}

func newModel() *model { return &model{patterns(), map[string]int{}} }

func (m *model) fold(e api.Expr) api.Expr {
	e.Kids = slices.Clone(e.Kids)
	for i, kid := range e.Kids {
		e.Kids[i] = m.fold(kid)
	}
	for {
		if v, constant := modelConst(e); constant {
			return modelWritten(v)
		}
		next, applies := m.step(e)
		if !applies {
			return e
		}
		e = next
	}
}

// step gives what the first pattern that fits makes of a node.
func (m *model) step(e api.Expr) (api.Expr, bool) {
	for _, p := range m.patterns {
		is := map[string]api.Expr{}
		if !p.fits(p.from, e, is) {
			continue
		}
		m.used[p.text]++
		next := filled(p.to, is)
		if p.rule == 9 {
			next = modelPlus(next)
		}
		return next, true
	}
	return api.Expr{}, false
}

// modelPlus writes x + v, which rule 8 has not looked at yet, as rule 9 does.
func modelPlus(e api.Expr) api.Expr {
	v, _ := modelConst(e.Kids[1])
	if v.Int >= 0 || v.Int == math.MinInt64 {
		return e
	}
	v.Int = -v.Int
	return bin(api.OSub, e.Kids[0], modelWritten(v))
}

// modelConst is what Const is to answer.
func modelConst(e api.Expr) (api.Value, bool) {
	var sides []api.Value
	for _, kid := range e.Kids {
		v, constant := modelConst(kid)
		if !constant && e.Kind != api.ELit {
			return api.Value{}, false
		}
		sides = append(sides, v)
	}
	v, err := api.Value{}, api.ErrTree
	switch {
	case e.Kind == api.ELit && value.Valid(e.Val):
		v, err = e.Val, api.OK
	case e.Kind == api.EUn && len(sides) == 1:
		v, err = value.Unary(e.Op, sides[0])
	case e.Kind == api.EBin && len(sides) == 2:
		v, err = value.Binary(e.Op, sides[0], sides[1])
	}
	return v, err == api.OK
}

// modelWritten is a constant as it is written: as its text reads.
func modelWritten(v api.Value) api.Expr {
	if v.Kind == api.KInt && v.Int == math.MinInt64 {
		return expr("9223372036854775807 + 1")
	}
	s, _ := value.Show(v)
	return expr(s)
}

// worth tells the value of an expression over what its references and functions are, by their texts.
func worth(e api.Expr, env func(text string) api.Value) (api.Value, bool) {
	err := api.OK
	var sides []api.Value
	for _, kid := range e.Kids {
		v, ok := worth(kid, env)
		if !ok {
			return api.Value{}, false
		}
		sides = append(sides, v)
	}
	switch v := (api.Value{}); e.Kind {
	case api.ELit:
		return e.Val, true
	case api.EUn:
		v, err = value.Unary(e.Op, sides[0])
		return v, err == api.OK
	case api.EBin:
		v, err = value.Binary(e.Op, sides[0], sides[1])
		return v, err == api.OK
	}
	return env(shown(e)), true
}
