package check

import (
	"slices"

	"refrain/api"
	"refrain/schema"
)

// each asks for the fault of each place of a list, and tells the first one and its place.
func each(length int, fault func(at int) api.Errno) (int, api.Errno) {
	for at := range length {
		if err := fault(at); err != api.OK {
			return at, err
		}
	}
	return 0, api.OK
}

// bounded does so with a list that may be neither empty nor too long.
func bounded(length, most int, fault func(at int) api.Errno) (int, api.Errno) {
	switch {
	case length == 0:
		return 0, api.ErrLong
	case length > most:
		return most, api.ErrLong
	}
	return each(length, fault)
}

func (l *look) comps() (int, api.Errno) {
	comps := l.query.Comps
	if num, err := bounded(len(comps), api.MaxComps, l.comp); err != api.OK {
		return num, err
	}
	for _, end := range []int{0, len(comps) - 1} {
		if comps[end].Neg {
			return end, api.ErrNeg
		}
	}
	return 0, api.OK
}

func (l *look) comp(at int) api.Errno {
	c := l.query.Comps[at]
	if c.Neg && c.Plus {
		return api.ErrTree
	}
	if _, err := l.typeNamed(c.Type); err != api.OK {
		return err
	}
	if !schema.Name(c.Var) || l.compOf[c.Var] < at {
		return api.ErrVar
	}
	return api.OK
}

func (l *look) part() (int, api.Errno) {
	if l.query.Part == "" {
		return 0, api.OK
	}
	return 0, l.shared(l.query.Part)
}

// shared tells what is wrong with an attribute that all components are to have alike.
func (l *look) shared(name string) api.Errno {
	if name == api.TimeAttr {
		return api.ErrAttr
	}
	first := 0
	for i, c := range l.query.Comps {
		t, _ := l.typeNamed(c.Type)
		kind, err := attrKind(t, name)
		if err != api.OK {
			return err
		}
		if i == 0 {
			first = kind
		}
		if kind != first {
			return api.ErrKind
		}
	}
	return api.OK
}

func (l *look) equiv() (int, api.Errno) {
	equiv := l.query.Equiv
	return each(len(equiv), func(at int) api.Errno {
		switch {
		case at >= api.MaxConds:
			return api.ErrLong
		case slices.Contains(equiv[:at], equiv[at]):
			return api.ErrEquiv
		}
		return l.shared(equiv[at])
	})
}

func (l *look) where() (int, api.Errno) {
	if s := l.query.Strategy; s != api.Any && s != api.Next && s != api.Strict {
		return 0, api.ErrTree
	}
	return each(len(l.query.Where), l.cond)
}

func (l *look) cond(at int) api.Errno {
	if len(l.query.Equiv)+at >= api.MaxConds {
		return api.ErrLong
	}
	kind, err := l.unmixed(l.query.Where[at], l.condMixes)
	if err == api.OK && kind != api.KBool {
		return api.ErrBool
	}
	return err
}

func (l *look) within() (int, api.Errno) {
	if l.query.Within < 0 || l.query.Within > api.MaxTime {
		return 0, api.ErrSpan
	}
	return 0, api.OK
}

func (l *look) out() (int, api.Errno) {
	if l.query.Out == "" {
		return 0, api.OK
	}
	_, err := l.typeNamed(l.query.Out)
	return 0, err
}

func (l *look) items() (int, api.Errno) {
	count := len(l.query.Items)
	num, err := bounded(count, api.MaxItems, l.item)
	if err == api.OK && count < len(l.outAttrs()) {
		return count, api.ErrOut
	}
	return num, err
}

func (l *look) item(at int) api.Errno {
	items := l.query.Items
	name := items[at].Name
	if !schema.Name(name) {
		return api.ErrName
	}
	if slices.ContainsFunc(items[:at], func(i api.Item) bool { return i.Name == name }) {
		return api.ErrDup
	}
	kind, err := l.unmixed(items[at].Expr, l.itemMixes)
	if err != api.OK {
		return err
	}
	attrs := l.outAttrs()
	if l.query.Out != "" && (at >= len(attrs) || attrs[at] != api.Attr{Name: name, Kind: kind}) {
		return api.ErrOut
	}
	return api.OK
}

// outAttrs gives the attributes that the items are to be, one each: none, if the output is no event.
func (l *look) outAttrs() []api.Attr {
	if l.query.Out == "" {
		return nil
	}
	t, _ := l.typeNamed(l.query.Out)
	return t.Attrs
}
