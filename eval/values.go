package eval

import (
	"cmp"
	"iter"

	"pastern/api"
	"pastern/value"
)

// Values of a node's kids, from the left, each with why there is none.
type values iter.Seq2[api.Value, error]

// all: every one of them; none beside the first error.
func all(l values) ([]api.Value, error) {
	var out []api.Value
	for v, err := range l {
		if err != nil {
			return nil, err
		}
		out = append(out, v)
	}
	return out, nil
}

// until goes on to the first one that is what it stops at: that tells the whole.
func until(stop bool, l values) (api.Value, error) {
	for v, err := range l {
		switch {
		case err != nil:
			return api.Value{}, err
		case v.Kind != api.Bool:
			return api.Value{}, api.ErrKind
		case value.Same(v, truth(stop)):
			return v, nil
		}
	}
	return truth(!stop), nil
}

// result: what an Op makes of all its kids. An only kid stands in both places,
// so that there are always two of one Kind.
func result(op int, l []api.Value) (api.Value, error) {
	a, b := l[0], l[len(l)-1]
	if a.Kind != b.Kind {
		return api.Value{}, api.ErrKind
	}
	switch op {
	case api.EEq:
		return truth(value.Same(a, b)), nil
	case api.ENe:
		return truth(!value.Same(a, b)), nil
	case api.ELt, api.ELe:
		if a.Kind == api.Int || a.Kind == api.Str {
			return truth(compare(a, b) < 0 || op == api.ELe && compare(a, b) == 0), nil
		}
	case api.ENot:
		if a.Kind == api.Bool {
			return truth(!value.Same(a, truth(true))), nil
		}
	case api.EAdd, api.ESub, api.EMul:
		if a.Kind == api.Int {
			return number(op, a.N, b.N)
		}
	}
	return api.Value{}, api.ErrKind
}

// compare needn't ask the Kind: two Ints have no text, two Strs no number.
func compare(a, b api.Value) int {
	return cmp.Or(cmp.Compare(a.N, b.N), cmp.Compare(a.S, b.S))
}

func truth(b bool) api.Value {
	v := value.Zero(api.Bool)
	if b {
		v.N = 1
	}
	return v
}
