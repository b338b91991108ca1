package check

import (
	"iter"

	"pastern/api"
	"pastern/schema"
)

// Kinds of the things of a row, each its Kind or why it has none. The types of
// an element, those of a whole pattern and the kids of a node are all such
// rows: what is asked of them is asked once.
type kinds iter.Seq2[int, error]

// one: the Kind that all are of; 0, if there are none. All are gone through
// ahead of ErrKind: an error in one of them comes ahead of what they are to
// one another.
func one(l kinds) (int, error) {
	kind, first, alike := 0, true, true
	for next, err := range l {
		if err != nil {
			return 0, err
		}
		alike = alike && (first || next == kind)
		kind, first = next, false
	}
	if !alike {
		return 0, api.ErrKind
	}
	return kind, nil
}

// fieldKinds: of a field in each type of each element.
func fieldKinds(s api.Schema, field string, l ...api.Elem) kinds {
	return func(yield func(int, error) bool) {
		for _, e := range l {
			for _, name := range e.Types {
				if !yield(fieldKind(s, name, field)) {
					return
				}
			}
		}
	}
}

// fieldKind doesn't ask whether the type is there: one that isn't has no field.
func fieldKind(s api.Schema, typ, field string) (int, error) {
	t, _ := schema.Find(s, typ)
	place := schema.Field(t, field)
	if place < 0 {
		return 0, api.ErrName
	}
	return t.Fields[place].Kind, nil
}

func hasTypes(s api.Schema, e api.Elem) bool {
	for _, name := range e.Types {
		if _, there := schema.Find(s, name); !there {
			return false
		}
	}
	return true
}
