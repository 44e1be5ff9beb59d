package parse

import "refrain/api"

func (r *reader) query() (api.Query, api.Spots) {
	q := api.Query{Strategy: api.Any}
	var spots api.Spots
	r.pass("PATTERN", "SEQ", "(")
	r.list(func() {
		spots.Comps = append(spots.Comps, r.at())
		q.Comps = append(q.Comps, r.comp())
	})
	r.pass(")")
	if r.passes("PARTITION") {
		r.pass("BY")
		spots.Part = r.at()
		q.Part = r.name()
	}
	if r.passes("WHERE") {
		r.where(&q, &spots)
	}
	r.pass("WITHIN")
	spots.Within = r.at()
	q.Within = r.number()
	r.pass("RETURN")
	if !r.is("(") {
		spots.Out = r.at()
		q.Out = r.name()
	}
	r.pass("(")
	r.list(func() {
		spots.Items = append(spots.Items, r.at())
		q.Items = append(q.Items, r.item())
	})
	r.pass(")")
	return q, spots
}

func (r *reader) comp() api.Comp {
	if r.passes("!") {
		r.pass("(")
		c := api.Comp{Neg: true, Type: r.name(), Var: r.name()}
		r.pass(")")
		return c
	}
	c := api.Comp{Type: r.name(), Plus: r.passes("+"), Var: r.name()}
	if c.Plus {
		r.pass("[", "]")
	}
	return c
}

// where reads what stands behind WHERE.
func (r *reader) where(q *api.Query, spots *api.Spots) {
	q.Strategy = r.strategy()
	if !r.passes("{") {
		return
	}
	r.list(func() { r.cond(q, spots) })
	r.pass("}")
}

func (r *reader) strategy() int {
	switch {
	case r.passes("any"):
		return api.Any
	case r.passes("next"):
		return api.Next
	}
	r.pass("strict")
	return api.Strict
}

func (r *reader) cond(q *api.Query, spots *api.Spots) {
	at := r.at()
	if r.passes("[") {
		spots.Equiv = append(spots.Equiv, at)
		q.Equiv = append(q.Equiv, r.name())
		r.pass("]")
		return
	}
	spots.Where = append(spots.Where, at)
	q.Where = append(q.Where, r.bounded())
}

func (r *reader) item() api.Item {
	name := r.name()
	r.pass("=")
	return api.Item{Name: name, Expr: r.bounded()}
}
