package fold

import (
	"refrain/api"
	"refrain/shape"
)

// rule is a rule of the chapter's list: it gives what takes the place of a node of its operation that has such Kids, and tells whether it applies.
type rule struct {
	op    int
	gives func(kids []api.Expr) (api.Expr, bool)
}

// ruleList is a row of rules, of which the first one that applies counts.
type ruleList []rule

// rules lists the chapter's rules from its second one on; the first one, of constants, is asked by settle.
func rules() ruleList {
	yes, no := truth(true), truth(false)
	zero, one, lessOne := number(0), number(1), number(-1)
	return ruleList{
		// 2
		twice(api.ONot), twice(api.ONeg), opposite(api.ONeg, api.OSub),
		// 3
		turned(api.OEq, api.ONe), turned(api.ONe, api.OEq),
		turned(api.OLt, api.OGe), turned(api.OGe, api.OLt),
		turned(api.OGt, api.OLe), turned(api.OLe, api.OGt),
		// 4
		ahead(yes, api.OAnd, itself), behind(api.OAnd, yes, itself),
		ahead(no, api.OAnd, always(no)), behind(api.OAnd, no, always(no)),
		ahead(no, api.OOr, itself), behind(api.OOr, no, itself),
		ahead(yes, api.OOr, always(yes)), behind(api.OOr, yes, always(yes)),
		twins(api.OAnd, itself), twins(api.OOr, itself),
		// 5
		twins(api.OEq, always(yes)), twins(api.OLe, always(yes)), twins(api.OGe, always(yes)),
		twins(api.ONe, always(no)), twins(api.OLt, always(no)), twins(api.OGt, always(no)),
		// 6
		swapped(api.OAdd, api.OAdd), swapped(api.OMul, api.OMul),
		swapped(api.OEq, api.OEq), swapped(api.ONe, api.ONe),
		swapped(api.OLt, api.OGt), swapped(api.OLe, api.OGe),
		swapped(api.OGt, api.OLt), swapped(api.OGe, api.OLe),
		// 7
		behind(api.OEq, yes, itself), behind(api.ONe, no, itself),
		behind(api.OEq, no, under(api.ONot)), behind(api.ONe, yes, under(api.ONot)),
		// 8
		behind(api.OAdd, zero, itself), behind(api.OSub, zero, itself), behind(api.OMul, one, itself),
		twins(api.OSub, always(zero)), behind(api.OMul, zero, always(zero)),
		ahead(zero, api.OSub, under(api.ONeg)), behind(api.OMul, lessOne, under(api.ONeg)),
		// 9
		sum(api.OAdd), sum(api.OSub),
		// 10
		product(api.OMul),
		// 11
		signBehind(api.OAdd, api.OSub), signBehind(api.OSub, api.OAdd), signAhead(api.OAdd, api.OSub),
		// 12
		moved(api.OEq), moved(api.ONe),
	}
}

// fold gives an expression folded and true; one that has a fault as it is, and false.
func (l ruleList) fold(e api.Expr) (api.Expr, bool) {
	own := shape.Copy(e)
	if shape.Fault(e) != api.OK {
		return own, false
	}
	return l.simpler(own), true
}

// simpler folds an expression that has no fault, and writes into its lists.
func (l ruleList) simpler(e api.Expr) api.Expr {
	for i, kid := range e.Kids {
		e.Kids[i] = l.simpler(kid)
	}
	return l.settle(e)
}

// settle gives what becomes of a node of whose Kids no rule speaks.
func (l ruleList) settle(e api.Expr) api.Expr {
	for {
		// One that is written so already stays, whatever other rules would say of it.
		if v, ok := constant(e); ok {
			return written(v)
		}
		next, ok := l.first(e)
		if !ok {
			return e
		}
		e = next
	}
}

// first gives what the first rule that applies to a node puts in its place.
func (l ruleList) first(e api.Expr) (api.Expr, bool) {
	for _, r := range l {
		if !isOperation(e, r.op) {
			continue
		}
		if next, ok := r.gives(e.Kids); ok {
			return next, true
		}
	}
	return api.Expr{}, false
}

// conds folds a condition, and gives the conditions that must hold for it.
func (l ruleList) conds(e api.Expr) []api.Expr {
	folded, sound := l.fold(e)
	if !sound {
		return []api.Expr{folded}
	}
	return sides(folded)
}

// sides gives a condition's two sides, and their sides likewise, as long as it is an OAnd; else itself alone.
func sides(e api.Expr) []api.Expr {
	if !isOperation(e, api.OAnd) {
		return []api.Expr{e}
	}
	return append(sides(e.Kids[0]), sides(e.Kids[1])...)
}
