package eval

import (
	"pastern/api"
	"pastern/value"
)

// number: what an Op makes of two numbers, if that is one.
func number(op int, a, b int64) (api.Value, error) {
	v, fits := value.Zero(api.Int), false
	switch op {
	case api.EAdd:
		v.N, fits = sum(a, b)
	case api.ESub:
		v.N, fits = difference(a, b)
	case api.EMul:
		v.N, fits = product(a, b)
	}
	if !fits {
		return api.Value{}, api.ErrOver
	}
	return v, nil
}

// What is too great wraps round. A sum or a difference that did lies on the
// wrong side of a.

func sum(a, b int64) (int64, bool) {
	c := a + b
	return c, (c > a) == (b > 0)
}

func difference(a, b int64) (int64, bool) {
	c := a - b
	return c, (c < a) == (b > 0)
}

// product takes the way back. The sign is asked as well: the way back from the
// least number by -1 wraps round, too.
func product(a, b int64) (int64, bool) {
	if a == 0 || b == 0 {
		return 0, true
	}
	c := a * b
	return c, (c < 0) == ((a < 0) != (b < 0)) && c/b == a
}
