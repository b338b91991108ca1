package check

import (
	"iter"
	"slices"

	"pastern/api"
)

// A scope is what a condition may look at: elements that may be named, of the
// types of a schema.
type scope struct {
	schema api.Schema
	named  []api.Elem
}

// scopes gives each element with those that its condition may name: itself, and
// what is ahead of it, but no Not, as no event stands for one.
func scopes(l []api.Elem) iter.Seq2[api.Elem, []api.Elem] {
	return func(yield func(api.Elem, []api.Elem) bool) {
		var ahead []api.Elem
		for _, e := range l {
			named := append(slices.Clip(ahead), e)
			if !yield(e, named) {
				return
			}
			if !e.Not {
				ahead = named
			}
		}
	}
}

// kind goes down a condition that is expr's Is: so it is never deep.
func (c scope) kind(x api.Expr) (int, error) {
	switch x.Op {
	case api.ELit:
		return x.Val.Kind, nil
	case api.EField:
		return c.field(x.Alias, x.Field)
	}
	of, err := one(c.kinds(x.Kids))
	if err != nil {
		return 0, err
	}
	return result(x.Op, of)
}

func (c scope) kinds(l []api.Expr) kinds {
	return func(yield func(int, error) bool) {
		for _, x := range l {
			if !yield(c.kind(x)) {
				return
			}
		}
	}
}

func (c scope) field(alias, field string) (int, error) {
	for _, e := range c.named {
		if e.Alias == alias {
			return one(fieldKinds(c.schema, field, e))
		}
	}
	return 0, api.ErrName
}

// result: what an Op makes of kids that are all of one Kind.
func result(op, of int) (int, error) {
	switch op {
	case api.EAdd, api.ESub, api.EMul:
		if of == api.Int {
			return api.Int, nil
		}
	case api.ELt, api.ELe:
		if of == api.Int || of == api.Str {
			return api.Bool, nil
		}
	case api.EEq, api.ENe:
		return api.Bool, nil
	case api.EAnd, api.EOr, api.ENot:
		if of == api.Bool {
			return api.Bool, nil
		}
	}
	return 0, api.ErrKind
}
