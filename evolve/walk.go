package evolve

import (
	"iter"

	"pastern/api"
)

// added is the place of a field that the elder type doesn't have.
const added = -1

// types: those of a schema behind a change that may be (behind none: as they
// are), each in memory of its own.
func types(s api.Schema, c api.Change) iter.Seq[api.Type] {
	return func(yield func(api.Type) bool) {
		placed := c.Kind != api.SType
		for _, t := range s.Types {
			if !placed && c.Type < t.Name {
				placed = true
				if !yield(api.Type{Name: c.Type}) {
					return
				}
			}
			if !yield(changed(t, c)) {
				return
			}
		}
		if !placed {
			yield(api.Type{Name: c.Type})
		}
	}
}

func changed(t api.Type, c api.Change) api.Type {
	out := api.Type{Name: t.Name}
	for _, f := range fields(t, c) {
		out.Fields = append(out.Fields, f)
	}
	return out
}

// fields: those of a type behind a change that may be, each with the place
// that it had ahead of it. Types and events are changed by this one walk, so
// that what is moved suits what was applied.
func fields(t api.Type, c api.Change) iter.Seq2[int, api.Field] {
	return func(yield func(int, api.Field) bool) {
		mine := t.Name == c.Type
		for place, f := range t.Fields {
			if mine && f.Name == c.Field {
				switch c.Kind {
				case api.SDrop:
					continue
				case api.SRename:
					f.Name = c.To
				case api.SWiden:
					f.Kind = api.Int
				}
			}
			if !yield(place, f) {
				return
			}
		}
		if mine && c.Kind == api.SAdd {
			yield(added, api.Field{Name: c.Field, Kind: c.Def.Kind})
		}
	}
}
