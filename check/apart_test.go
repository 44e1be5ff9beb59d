package check_test

import (
	"math/rand/v2"
	"strconv"
	"testing"

	"refrain/api"
	"refrain/check"
)

// maker makes queries at random that are nearly right: most of what it puts in fits what is there, so that faults are met in all parts.
type maker struct {
	*rand.Rand
	types []api.Type
	query api.Query
}

// rarely is true once in so many times.
func (m *maker) rarely(times int) bool { return m.IntN(times) == 0 }

// one picks one of a list.
func one[T any](m *maker, l ...T) T { return l[m.IntN(len(l))] }

func (m *maker) comps(count int) []api.Comp {
	var l []api.Comp
	for i := range count {
		c := api.Comp{Type: one(m, "Trade", "Trade", "Trade", "Trade", "Note", "Pair", "Twin", "Odd"), Var: "v" + strconv.Itoa(i)}
		switch m.IntN(4) {
		case 0:
			c.Plus = true
		case 1:
			c.Neg = i > 0 && i < count-1 || m.rarely(20)
		}
		if m.rarely(100) {
			c.Type = one(m, "Nope", "Clock", "")
		}
		if m.rarely(100) {
			c.Var = one(m, "v0", "v1", "INT", "", "time")
		}
		if m.rarely(150) {
			c.Neg, c.Plus = true, true
		}
		l = append(l, c)
	}
	return l
}

// attr picks an attribute, mostly one that a type has, of a kind.
func (m *maker) attr(name string, kind int) string {
	var names []string
	for _, t := range typesOf(name, m.types)[:min(1, len(typesOf(name, m.types)))] {
		for _, a := range t.Attrs {
			if a.Kind == kind || m.rarely(30) {
				names = append(names, a.Name)
			}
		}
	}
	if len(names) == 0 || m.rarely(20) {
		names = append(names, "time")
	}
	if m.rarely(60) {
		names = append(names, "nope")
	}
	return one(m, names...)
}

// reference makes a reference or a function that is mostly of this kind.
func (m *maker) reference(kind int) api.Expr {
	if m.rarely(80) || len(m.query.Comps) == 0 {
		return expr("z.x")
	}
	c := one(m, m.query.Comps...)
	e := api.Expr{Kind: api.ERef, Var: c.Var, At: api.AtOne, Attr: m.attr(c.Type, kind)}
	if c.Plus != m.rarely(50) {
		e.At = one(m, api.AtCur, api.AtPrev, api.AtFirst, api.AtFirst, api.AtLast, api.AtLast)
		if kind == api.KInt && m.rarely(2) {
			e = api.Expr{Kind: api.EAgg, Op: one(m, api.FCount, api.FSum, api.FMin, api.FMax), Var: c.Var, At: one(m, api.AtAll, api.AtAll, api.AtBefore), Attr: e.Attr}
			if e.Op == api.FCount {
				e.Attr = ""
			}
		}
	}
	return e
}

// grown makes an expression that is mostly of this kind.
func (m *maker) grown(kind, depth int) api.Expr {
	if m.rarely(120) {
		return one(m, api.Expr{}, under(32, expr("1")), doubled(9, expr("1")), expr("1"), expr("TRUE"))
	}
	two := func(op, kind int) api.Expr {
		return api.Expr{Kind: api.EBin, Op: op, Kids: []api.Expr{m.grown(kind, depth-1), m.grown(kind, depth-1)}}
	}
	on := func(op int) api.Expr {
		return api.Expr{Kind: api.EUn, Op: op, Kids: []api.Expr{m.grown(kind, depth-1)}}
	}
	switch {
	case depth <= 0 || m.rarely(3) || kind == api.KStr:
		if m.rarely(4) {
			return expr(one(m, map[int][]string{api.KInt: {"0", "17"}, api.KStr: {`""`, `"s"`}, api.KBool: {"TRUE", "FALSE"}}[kind]...))
		}
		return m.reference(kind)
	case kind == api.KInt && m.rarely(4):
		return on(api.ONeg)
	case kind == api.KInt:
		return two(one(m, api.OAdd, api.OSub, api.OMul), api.KInt)
	case m.rarely(5):
		return on(api.ONot)
	case m.rarely(3):
		return two(one(m, api.OAnd, api.OOr, api.OEq, api.ONe), api.KBool)
	}
	return two(one(m, api.OEq, api.ONe, api.OLt, api.OLe, api.OGt, api.OGe), one(m, api.KInt, api.KStr))
}

// shared picks an attribute that all may have alike.
func (m *maker) shared() string {
	names := []string{"sym", "price", "live", "ok", "a", "time", "nope"}
	return names[min(m.IntN(len(names)), m.IntN(len(names)), m.IntN(len(names)))]
}

// make makes a query.
func (m *maker) make() api.Query {
	m.query = api.Query{Comps: m.comps(1 + m.IntN(4)), Strategy: 1 + m.IntN(3), Within: m.Int64N(100)}
	q := &m.query
	if m.rarely(20) {
		q.Comps = m.comps(one(m, 0, 7, 8, 8, 9, 10))
	}
	if m.rarely(8) {
		q.Part = m.shared()
	}
	for m.rarely(4) {
		q.Equiv = append(q.Equiv, m.shared())
	}
	for range m.IntN(4) {
		q.Where = append(q.Where, m.grown(api.KBool, m.IntN(4)))
	}
	if m.rarely(10) {
		for range 28 + m.IntN(8) {
			q.Where = append(q.Where, expr("TRUE"))
		}
	}
	if m.rarely(20) {
		for range 34 - m.IntN(6) {
			q.Equiv = append(q.Equiv, "n"+strconv.Itoa(len(q.Equiv)))
		}
	}
	if m.rarely(60) {
		q.Strategy = one(m, 0, 4, -1)
	}
	if m.rarely(20) {
		q.Within = one[int64](m, -1, 0, 1<<62, 1<<62+1, 1<<63-1, -1<<63)
	}
	m.output()
	return *q
}

func (m *maker) output() {
	q := &m.query
	if m.rarely(2) {
		q.Out = one(m, "Pair", "Note", "Trade", "Twin", "Odd")
		for _, a := range typesOf(q.Out, m.types)[0].Attrs {
			q.Items = append(q.Items, api.Item{Name: a.Name, Expr: m.grown(min(max(a.Kind, 1), 3), 2)})
		}
	} else {
		for i := range 1 + m.IntN(3) {
			q.Items = append(q.Items, api.Item{Name: "x" + strconv.Itoa(i), Expr: m.grown(1+m.IntN(3), m.IntN(3))})
		}
	}
	if m.rarely(20) {
		q.Items = q.Items[:m.IntN(len(q.Items))]
	}
	for m.rarely(10) {
		q.Items = append(q.Items, api.Item{Name: one(m, "x0", "y", "AND", "time", "a"), Expr: m.grown(api.KInt, 1)})
	}
	if m.rarely(20) {
		for range 15 {
			q.Items = append(q.Items, api.Item{Name: "z" + strconv.Itoa(len(q.Items)), Expr: expr("1")})
		}
	}
	if m.rarely(30) {
		q.Out = one(m, "Nope", "Clock", "Trade", "")
	}
}

// allFaults are the sorts that a query may have, by part.
func allFaults() map[int][]api.Errno {
	return map[int][]api.Errno{
		0:           {api.OK},
		api.InComps: {api.ErrLong, api.ErrTree, api.ErrType, api.ErrVar, api.ErrNeg},
		api.InPart:  {api.ErrAttr, api.ErrKind}, api.InEquiv: {api.ErrLong, api.ErrEquiv, api.ErrAttr, api.ErrKind},
		api.InWhere:  {api.ErrTree, api.ErrLong, api.ErrVar, api.ErrUse, api.ErrAttr, api.ErrKind, api.ErrMix, api.ErrBool},
		api.InWithin: {api.ErrSpan}, api.InOut: {api.ErrType},
		api.InItems: {api.ErrLong, api.ErrName, api.ErrDup, api.ErrTree, api.ErrVar, api.ErrUse, api.ErrAttr, api.ErrKind, api.ErrMix, api.ErrOut},
	}
}

// TestGrownQueries holds Query and Kind against the model, over queries with faults of all sorts.
func TestGrownQueries(t *testing.T) {
	kind, _ := broad(40)
	types := with(append(odd(), kind)...)
	// An attribute that many have alike, for equivalences without end.
	for i := range types {
		types[i].Attrs = append(types[i].Attrs, kind.Attrs...)
	}
	narrow := with(odd()...)
	met := map[string]int{}
	m := &maker{Rand: rand.New(rand.NewPCG(8, 8))}
	for i := range 60_000 {
		m.types = narrow
		if i%4 == 0 {
			m.types = types
		}
		q := m.make()
		want := modelFault(q, m.types)
		met[faultName(want)]++
		told(t, q, m.types, want)
		for _, e := range q.Where[:min(len(q.Where), 3)] {
			is, err := modelKind(e, q, m.types)
			if got, fault := check.Kind(e, q, m.types...); got != is || fault != err {
				t.Errorf("P8.2: Kind(%s, %s) = %d, %d, want %d, %d", short(e), short(q.Comps), got, fault, is, err)
			}
		}
		if t.Failed() { // one is enough to tell
			return
		}
	}
	for part, faults := range allFaults() {
		for _, fault := range faults {
			if name := faultName(in(part, 0, fault)); met[name] < 20 {
				t.Errorf("the fault %s was met %d times", name, met[name])
			}
		}
	}
}
