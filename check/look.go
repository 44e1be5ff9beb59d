package check

import "refrain/api"

// look knows a query and the declared types, and where in their lists what has a name stands.
type look struct {
	query  api.Query
	types  []api.Type
	compOf map[string]int // by variables
	typeOf map[string]int // by names
}

func lookOver(q api.Query, types []api.Type) *look {
	return &look{
		query:  q,
		types:  types,
		compOf: firstOf(q.Comps, func(c api.Comp) string { return c.Var }),
		typeOf: firstOf(types, func(t api.Type) string { return t.Name }),
	}
}

// firstOf tells where in a list the first element of each name stands.
func firstOf[T any](list []T, name func(T) string) map[string]int {
	first := map[string]int{}
	for at, element := range list {
		if _, known := first[name(element)]; !known {
			first[name(element)] = at
		}
	}
	return first
}

// typeNamed gives the type of a name.
func (l *look) typeNamed(name string) (api.Type, api.Errno) {
	at, known := l.typeOf[name]
	if !known {
		return api.Type{}, api.ErrType
	}
	return l.types[at], api.OK
}

// attrKind tells the kind of a type's attribute of a name.
func attrKind(t api.Type, name string) (int, api.Errno) {
	for _, attr := range t.Attrs {
		if attr.Name != name {
			continue
		}
		if attr.Kind < api.KInt || attr.Kind > api.KBool {
			return 0, api.ErrKind
		}
		return attr.Kind, api.OK
	}
	return 0, api.ErrAttr
}
