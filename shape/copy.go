package shape

import (
	"strings"

	"refrain/api"
)

// Copy gives an expression anew: its lists share no memory with those that are handed in, nor with one another. What is still to be copied stands in a row: it nests no calls, so that no tree is too deep for it.
func Copy(e api.Expr) api.Expr {
	top := []api.Expr{e}
	ahead := [][]api.Expr{top}
	for len(ahead) > 0 {
		nodes := ahead[len(ahead)-1]
		ahead = ahead[:len(ahead)-1]
		for i := range nodes {
			nodes[i] = copyNode(nodes[i])
			if len(nodes[i].Kids) > 0 {
				ahead = append(ahead, nodes[i].Kids)
			}
		}
	}
	return top[0]
}

// copyNode gives a node anew, with a list of Kids of its own; what those hold is not copied yet.
func copyNode(e api.Expr) api.Expr {
	var kids []api.Expr
	if len(e.Kids) > 0 {
		kids = make([]api.Expr, len(e.Kids))
		copy(kids, e.Kids)
	}
	// The texts are copied, too: a name that is kept shall not keep a text of which it is a piece.
	e.Val.Str, e.Var, e.Attr = strings.Clone(e.Val.Str), strings.Clone(e.Var), strings.Clone(e.Attr)
	e.Kids = kids
	return e
}
