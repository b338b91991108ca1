package eval

import (
	"slices"

	"pastern/api"
	"pastern/event"
)

// A scope is what a condition may look at: events that aliases stand for, of
// the types of a schema.
type scope struct {
	schema api.Schema
	bound  []api.Bind
}

// eval goes down a condition that is expr's Is: so it is never deep.
func (c scope) eval(x api.Expr) (api.Value, error) {
	kids := c.values(x.Kids)
	switch x.Op {
	case api.ELit:
		return x.Val, nil
	case api.EField:
		return c.field(x.Alias, x.Field)
	case api.EAnd:
		return until(false, kids)
	case api.EOr:
		return until(true, kids)
	}
	l, err := all(kids)
	if err != nil {
		return api.Value{}, err
	}
	return result(x.Op, l)
}

// values works out no value that isn't asked for: so EAnd and EOr leave the
// rest alone, errors and all, as soon as they know.
func (c scope) values(l []api.Expr) values {
	return func(yield func(api.Value, error) bool) {
		for _, x := range l {
			if !yield(c.eval(x)) {
				return
			}
		}
	}
}

// field asks the last event alone: one ahead of it doesn't stand in for it,
// even if only that one has the field.
func (c scope) field(alias, field string) (api.Value, error) {
	for _, b := range slices.Backward(c.bound) {
		if b.Alias == alias {
			return c.get(b.E, field)
		}
	}
	return api.Value{}, api.ErrName
}

func (c scope) get(e api.Event, field string) (api.Value, error) {
	v, has := event.Get(c.schema, e, field)
	if !has {
		return api.Value{}, api.ErrName
	}
	return v, nil
}
