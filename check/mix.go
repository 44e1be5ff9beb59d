package check

import (
	"slices"

	"refrain/api"
	"refrain/tree"
)

// unmixed tells the kind of an expression, if it has one and what it speaks of may stand together.
func (l *look) unmixed(e api.Expr, mixes func(refs []api.Ref) bool) (int, api.Errno) {
	kind, err := l.kind(e)
	if err == api.OK && mixes(tree.Refs(e)) {
		return 0, api.ErrMix
	}
	return kind, err
}

// condMixes tells whether a condition speaks of what may not stand together.
func (l *look) condMixes(refs []api.Ref) bool {
	return slices.ContainsFunc(refs, func(r api.Ref) bool {
		return slices.ContainsFunc(refs, l.against(r))
	})
}

// against gives the question whether another reference of a condition may not stand beside this one.
func (l *look) against(r api.Ref) func(other api.Ref) bool {
	at := l.compOf[r.Var]
	switch {
	case iterates(r):
		return func(other api.Ref) bool {
			if other.Var == r.Var {
				return !iterates(other) && other.At != api.AtFirst
			}
			return iterates(other) || !l.boundAhead(other, at)
		}
	case l.query.Comps[at].Neg:
		return func(other api.Ref) bool {
			return other.Var != r.Var && (iterates(other) || !l.boundAhead(other, at))
		}
	}
	return func(api.Ref) bool { return false }
}

// boundAhead tells whether a reference is to a positive component that stands further to the left.
func (l *look) boundAhead(r api.Ref, of int) bool {
	at := l.compOf[r.Var]
	return at < of && !l.query.Comps[at].Neg
}

// itemMixes tells whether an output speaks of what is gone at a match: an event that is being taken, or one that bars.
func (l *look) itemMixes(refs []api.Ref) bool {
	return slices.ContainsFunc(refs, func(r api.Ref) bool {
		return iterates(r) || l.query.Comps[l.compOf[r.Var]].Neg
	})
}

// iterates tells whether a reference is asked of each event that is taken.
func iterates(r api.Ref) bool {
	return r.At == api.AtCur || r.At == api.AtPrev || r.At == api.AtBefore
}
