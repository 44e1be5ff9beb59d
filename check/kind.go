package check

import (
	"refrain/api"
	"refrain/shape"
	"refrain/value"
)

// kind tells the kind of any expression.
func (l *look) kind(e api.Expr) (int, api.Errno) {
	if shape.Fault(e) != api.OK {
		return 0, api.ErrTree
	}
	return l.walk(e)
}

// walk tells the kind of an expression that is a tree.
func (l *look) walk(e api.Expr) (int, api.Errno) {
	switch e.Kind {
	case api.ELit:
		return e.Val.Kind, api.OK
	case api.ERef:
		return l.reference(e)
	case api.EAgg:
		return l.function(e)
	}
	return l.operation(e)
}

func (l *look) reference(e api.Expr) (int, api.Errno) {
	c, t, err := l.spokenOf(e.Var)
	switch {
	case err != api.OK:
		return 0, err
	case many(c) == (e.At == api.AtOne):
		return 0, api.ErrUse
	case e.Attr == api.TimeAttr:
		return api.KInt, api.OK
	}
	return attrKind(t, e.Attr)
}

func (l *look) function(e api.Expr) (int, api.Errno) {
	c, t, err := l.spokenOf(e.Var)
	switch {
	case err != api.OK:
		return 0, err
	case !many(c):
		return 0, api.ErrUse
	case e.Op == api.FCount || e.Attr == api.TimeAttr:
		return api.KInt, api.OK
	}
	kind, err := attrKind(t, e.Attr)
	if err == api.OK && kind != api.KInt {
		return 0, api.ErrKind
	}
	return kind, err
}

// spokenOf gives a variable's component and its type.
func (l *look) spokenOf(variable string) (api.Comp, api.Type, api.Errno) {
	at, known := l.compOf[variable]
	if !known {
		return api.Comp{}, api.Type{}, api.ErrVar
	}
	c := l.query.Comps[at]
	t, err := l.typeNamed(c.Type)
	return c, t, err
}

func many(c api.Comp) bool { return c.Plus && !c.Neg }

func (l *look) operation(e api.Expr) (int, api.Errno) {
	// Whether an operation takes values hangs on their kinds alone, so it is tried on some of these kinds.
	var sides []api.Value
	for _, kid := range e.Kids {
		kind, err := l.walk(kid)
		if err != api.OK {
			return 0, err
		}
		sides = append(sides, api.Value{Kind: kind})
	}
	if e.Kind == api.EUn {
		v, err := value.Unary(e.Op, sides[0])
		return v.Kind, err
	}
	v, err := value.Binary(e.Op, sides[0], sides[1])
	return v.Kind, err
}
