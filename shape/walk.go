package shape

import (
	"iter"

	"refrain/api"
)

// Walk goes over an expression's nodes from the left, each ahead of its Kids. What is ahead of it stands in rows, one for each level of the tree: it nests no calls, so that no tree is too deep for it.
type Walk struct {
	rows [][]api.Expr
}

// Over gives a walk over all of an expression.
func Over(e api.Expr) *Walk { return &Walk{rows: [][]api.Expr{{e}}} }

// Next gives the next node and its depth: nil behind the last one.
func (w *Walk) Next() (*api.Expr, int) {
	for depth := len(w.rows); depth > 0; depth-- {
		row := w.rows[depth-1]
		if len(row) > 0 {
			w.rows[depth-1] = row[1:]
			w.rows = append(w.rows[:depth], row[0].Kids)
			return &row[0], depth
		}
	}
	return nil, 0
}

// PassKids leaves out the Kids of the node that was given last.
func (w *Walk) PassKids() { w.rows = w.rows[:len(w.rows)-1] }

// Nodes yields what is ahead, each node with its depth.
func (w *Walk) Nodes() iter.Seq2[int, *api.Expr] {
	return func(yield func(int, *api.Expr) bool) {
		for node, depth := w.Next(); node != nil; node, depth = w.Next() {
			if !yield(depth, node) {
				return
			}
		}
	}
}
