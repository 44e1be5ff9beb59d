package tree

import (
	"iter"

	"refrain/api"
)

// walk goes over an expression's nodes from the left, each ahead of its Kids. What is ahead of it stands in rows, one for each level of the tree: it nests no calls, so that no tree is too deep for it.
type walk struct {
	rows [][]api.Expr
}

func over(e api.Expr) *walk { return &walk{rows: [][]api.Expr{{e}}} }

// next gives the next node and its depth: nil behind the last one.
func (w *walk) next() (*api.Expr, int) {
	for depth := len(w.rows); depth > 0; depth-- {
		row := w.rows[depth-1]
		if len(row) > 0 {
			w.rows[depth-1] = row[1:]
			w.rows = append(w.rows[:depth], row[0].Kids)
			return &row[0], depth
		}
	}
	return nil, 0
}

// passKids leaves out the Kids of the node that was given last.
func (w *walk) passKids() { w.rows = w.rows[:len(w.rows)-1] }

// nodes yields what is ahead, each node with its depth.
func (w *walk) nodes() iter.Seq2[int, *api.Expr] {
	return func(yield func(int, *api.Expr) bool) {
		for node, depth := w.next(); node != nil; node, depth = w.next() {
			if !yield(depth, node) {
				return
			}
		}
	}
}
