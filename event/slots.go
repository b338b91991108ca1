package event

import (
	"iter"

	"pastern/api"
)

// slots: each field of a type with the value that stands in its place. It ends
// with the shorter list: an event need not suit the type to be looked at.
func slots(t api.Type, e api.Event) iter.Seq2[api.Field, api.Value] {
	return func(yield func(api.Field, api.Value) bool) {
		for i := range min(len(t.Fields), len(e.Vals)) {
			if !yield(t.Fields[i], e.Vals[i]) {
				return
			}
		}
	}
}
