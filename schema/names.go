package schema

import (
	"iter"

	"pastern/api"
	"pastern/value"
)

// Types and fields are both told apart by their names alone, so what is asked
// of names is asked once, of a walk over them.

func typeNames(l []api.Type) iter.Seq[string] {
	return func(yield func(string) bool) {
		for _, t := range l {
			if !yield(t.Name) {
				return
			}
		}
	}
}

func fieldNames(l []api.Field) iter.Seq[string] {
	return func(yield func(string) bool) {
		for _, f := range l {
			if !yield(f.Name) {
				return
			}
		}
	}
}

func allNames(names iter.Seq[string]) bool {
	for n := range names {
		if !value.Name(n) {
			return false
		}
	}
	return true
}

// place is the first one's: a schema that Is none may have a name twice.
func place(names iter.Seq[string], name string) int {
	i := 0
	for n := range names {
		if n == name {
			return i
		}
		i++
	}
	return -1
}
