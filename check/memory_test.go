package check_test

import (
	"reflect"
	"slices"
	"sync"
	"testing"

	"refrain/api"
	"refrain/check"
)

// roomy gives a list with spare room behind it, in which something stands.
func roomy[T any](spare T, l ...T) []T { return append(slices.Clone(l), spare, spare)[:len(l)] }

// roomyExpr gives an expression whose lists have spare room.
func roomyExpr(e api.Expr) api.Expr {
	var kids []api.Expr
	for _, kid := range e.Kids {
		kids = append(kids, roomyExpr(kid))
	}
	e.Kids = roomy(api.Expr{Kind: 77}, kids...)
	return e
}

// roomyQuery gives a query without a fault and its types: all lists have spare room.
func roomyQuery(t *testing.T) (api.Query, []api.Type) {
	q := read(t, "SEQ(Trade a, Trade+ b[], !(Note n), Trade c) PARTITION BY sym WHERE next { [sym], b[i].price > a.price + 1, n.sym = a.sym } RETURN Pair(a = max(b.price) - 1, b = c.sym)")
	for i, e := range q.Where {
		q.Where[i] = roomyExpr(e)
	}
	for i, item := range q.Items {
		q.Items[i].Expr = roomyExpr(item.Expr)
	}
	q.Comps, q.Equiv, q.Where, q.Items = roomy(api.Comp{Type: "Nope"}, q.Comps...), roomy("spare", q.Equiv...), roomy(api.Expr{Kind: 77}, q.Where...), roomy(api.Item{Name: "spare"}, q.Items...)
	var types []api.Type
	for _, one := range declared() {
		types = append(types, api.Type{Name: one.Name, Attrs: roomy(api.Attr{Name: "spare"}, one.Attrs...)})
	}
	return q, roomy(api.Type{Name: "Spare"}, types...)
}

// whole gives all that a query and its types hold, spare room too.
func whole(q api.Query, types []api.Type) []any {
	all := []any{q, q.Comps[:cap(q.Comps)], q.Equiv[:cap(q.Equiv)], q.Where[:cap(q.Where)], q.Items[:cap(q.Items)], types[:cap(types)]}
	var kids func(e api.Expr)
	kids = func(e api.Expr) {
		all = append(all, e.Kids[:cap(e.Kids)])
		for _, kid := range e.Kids {
			kids(kid)
		}
	}
	for _, e := range q.Where {
		kids(e)
	}
	for _, item := range q.Items {
		kids(item.Expr)
	}
	for _, one := range types {
		all = append(all, one.Attrs[:cap(one.Attrs)])
	}
	return all
}

func TestWhatIsHandedInStaysAsItIs(t *testing.T) {
	for i := -1; i < len(spoils()); i++ {
		q, types := roomyQuery(t)
		was, wasTypes := roomyQuery(t)
		if i >= 0 && i < 5 { // the others want more conditions and items than there are
			spoils()[i].spoil(&q)
			spoils()[i].spoil(&was)
		}
		for range 2 {
			check.Query(q, types...)
			for _, e := range q.Where {
				check.Kind(e, q, types...)
			}
		}
		if !reflect.DeepEqual(whole(q, types), whole(was, wasTypes)) {
			t.Fatalf("P8.5: what was handed in is now %+v, %+v", whole(q, types), whole(was, wasTypes))
		}
	}
	q, types := roomyQuery(t)
	told(t, q, types, none())
}

// TestNothingIsKept asks again when what was handed in has become something else.
func TestNothingIsKept(t *testing.T) {
	q, types := roomyQuery(t)
	told(t, q, types, none())
	kind(t, q.Where[0], q, types, api.KBool, api.OK)
	types[0].Attrs[0].Kind = api.KInt
	told(t, q, types, in(api.InPart, 0, api.ErrKind))
	types[0].Attrs[0].Kind = api.KStr
	told(t, q, types, none())
	q.Comps[1].Var = "other"
	told(t, q, types, in(api.InWhere, 0, api.ErrVar))
	kind(t, q.Where[0], q, types, 0, api.ErrVar)
	q.Comps[1].Var = "b"
	types[0].Name = "Gone"
	told(t, q, types, in(api.InComps, 0, api.ErrType))
	types[0].Name = "Trade"
	told(t, q, types, none())
}

// TestEmptyLists asks with lists that are nil, and with empty ones.
func TestEmptyLists(t *testing.T) {
	q := read(t, "SEQ(Trade a) WHERE any { a.live }")
	q.Equiv = nil
	told(t, q, declared(), none())
	q.Equiv = []string{}
	told(t, q, declared(), none())
	q.Where[0].Kids = []api.Expr{}
	told(t, q, declared(), none())
	q.Where = []api.Expr{}
	told(t, q, declared(), none())
	told(t, q, nil, in(api.InComps, 0, api.ErrType))
	told(t, q, []api.Type{}, in(api.InComps, 0, api.ErrType))
	q.Items = []api.Item{}
	told(t, q, declared(), in(api.InItems, 0, api.ErrLong))
	q.Comps = []api.Comp{}
	told(t, q, declared(), in(api.InComps, 0, api.ErrLong))
}

// TestAnswersHangOnArgumentsAlone asks the same behind calls of all kinds, of many at a time.
func TestAnswersHangOnArgumentsAlone(t *testing.T) {
	q, types := roomyQuery(t)
	spoilt, _ := roomyQuery(t)
	spoilt.Where[1] = expr("n.sym = c.sym")
	var group sync.WaitGroup
	for range 8 {
		group.Go(func() {
			for range 200 {
				told(t, q, types, none())
				told(t, spoilt, types, in(api.InWhere, 1, api.ErrMix))
				told(t, spoilt, odd(), in(api.InComps, 2, api.ErrType))
				kind(t, q.Where[1], q, types, api.KBool, api.OK)
				kind(t, q.Items[0].Expr, q, types, api.KInt, api.OK)
				kind(t, expr("b.sym"), q, types, 0, api.ErrUse)
			}
		})
	}
	group.Wait()
}
