package parse

import (
	"pastern/api"
)

// The signs that stand between two kids, in the order of their Ops from EAdd on.
var signs = [...]string{"+", "-", "*", "=", "!=", "<", "<=", "AND", "OR"}

func (r *reader) condition() api.Expr {
	r.nodes = 0
	return r.node(1)
}

// node asks first whether one begins here at all, and at once whether it may:
// what is wrong behind its first word comes later, from the left.
func (r *reader) node(depth int) api.Expr {
	w := r.head()
	v, isLiteral := literal(w)
	if !isLiteral && w.Kind != api.WName && !is(w, "(") {
		r.fail(api.ErrForm)
		return api.Expr{}
	}
	r.nodes++
	if depth > api.MaxDepth || r.nodes > api.MaxNodes {
		r.fail(api.ErrLarge)
		return api.Expr{}
	}
	switch {
	case isLiteral:
		r.take(w.Kind)
		return api.Expr{Op: api.ELit, Val: v}
	case w.Kind == api.WName:
		return r.field()
	}
	return r.inner(depth)
}

func literal(w api.Word) (api.Value, bool) {
	switch {
	case w.Kind == api.WNum:
		return number(w), true
	case w.Kind == api.WText:
		return api.Value{Kind: api.Str, S: w.Text}, true
	case is(w, "TRUE"):
		return api.Value{Kind: api.Bool, N: 1}, true
	case is(w, "FALSE"):
		return api.Value{Kind: api.Bool}, true
	}
	return api.Value{}, false
}

func (r *reader) field() api.Expr {
	alias := r.name()
	r.must(".")
	return api.Expr{Op: api.EField, Alias: alias, Field: r.name()}
}

// inner: a node that has kids.
func (r *reader) inner(depth int) api.Expr {
	x := api.Expr{Op: api.ENot}
	r.must("(")
	if !r.eat("NOT") {
		x.Kids = append(x.Kids, r.node(depth+1))
		x.Op = r.op()
	}
	x.Kids = append(x.Kids, r.node(depth+1))
	r.must(")")
	return x
}

func (r *reader) op() int {
	for i, sign := range signs {
		if r.eat(sign) {
			return api.EAdd + i
		}
	}
	r.fail(api.ErrForm)
	return 0
}

func (r *reader) pattern() api.Pattern {
	p := api.Pattern{}
	r.must("SEQ", "(")
	for range r.parted(",") {
		p.Elems = append(p.Elems, r.element())
	}
	r.must(")", "WITHIN")
	p.Within = r.window()
	if r.eat("BY") {
		p.By = r.name()
	}
	p.Any = r.eat("ANY")
	return p
}

func (r *reader) element() api.Elem {
	e := api.Elem{}
	e.Not = r.eat("!")
	e.Alias = r.name()
	r.must(":")
	for range r.parted("|") {
		e.Types = append(e.Types, r.name())
	}
	e.Plus = r.eat("+")
	if r.eat("[") {
		e.Cond = r.condition()
		r.must("]")
	}
	return e
}

// window refuses what an int can't hold: cut off, it could be in range.
func (r *reader) window() int {
	n := r.take(api.WNum).N
	if int64(int(n)) != n {
		r.fail(api.ErrForm)
	}
	return int(n)
}
