package expr

import (
	"iter"
	"slices"

	"pastern/api"
)

// What lies deeper is neither told nor looked at: no condition that may be is
// as deep, and whatever is handed in, a walk goes no further.
const deepest = 20

// walk gives x and what is below it, each with its depth, x itself at 1, and
// ahead of its kids. A node of no Op is given, but what hangs on it is not: it
// is no condition.
func walk(x api.Expr) iter.Seq2[int, api.Expr] {
	return func(yield func(int, api.Expr) bool) {
		visit(x, 1, yield)
	}
}

// visit tells whether the walk goes on.
func visit(x api.Expr, depth int, yield func(int, api.Expr) bool) bool {
	if !yield(depth, x) {
		return false
	}
	if x.Op == 0 || depth == deepest {
		return true
	}
	for _, kid := range x.Kids {
		if !visit(kid, depth+1, yield) {
			return false
		}
	}
	return true
}

// copied goes all the way down: a node that is told is whole, however deep it
// reaches, and shares no list with the nodes below it that are told too.
func copied(x api.Expr) api.Expr {
	x.Kids = slices.Clone(x.Kids)
	for i, kid := range x.Kids {
		x.Kids[i] = copied(kid)
	}
	return x
}
