package value

import (
	"cmp"
	"iter"
)

// A span runs from low to high, both of them in it: bytes, lengths and
// numbers are all bounded on two sides, so they share one test.
type span[T cmp.Ordered] struct{ low, high T }

func (s span[T]) has(x T) bool { return s.low <= x && x <= s.high }

// allIn goes by bytes, not by runes: the limits of texts and names are
// told in bytes, and a byte above 126 is refused whatever rune it is part of.
func allIn(s string, in span[byte]) bool {
	for i := range len(s) {
		if !in.has(s[i]) {
			return false
		}
	}
	return true
}

// A row is a list that is read, never written: it lies in the caller's memory.
type row[T cmp.Ordered] []T

// pairs gives each item behind the one ahead of it; of fewer than two none.
func (r row[T]) pairs() iter.Seq2[T, T] {
	return func(yield func(T, T) bool) {
		for i := 1; i < len(r); i++ {
			if !yield(r[i-1], r[i]) {
				return
			}
		}
	}
}

// with gives the items of a rising row and x at its place; an x that is
// there already is not given again.
func (r row[T]) with(x T) iter.Seq[T] {
	return func(yield func(T) bool) {
		placed := false
		for _, item := range r {
			if !placed && x <= item {
				placed = true
				if x < item && !yield(x) {
					return
				}
			}
			if !yield(item) {
				return
			}
		}
		if !placed {
			yield(x)
		}
	}
}
