package evolve

import (
	"pastern/api"
	"pastern/schema"
	"pastern/value"
)

// refusal: why a change may not be, by the chapter's order; nil, if it may.
func refusal(s api.Schema, c api.Change) error {
	if !isFormed(c) {
		return api.ErrForm
	}
	t, there := schema.Find(s, c.Type)
	fresh := c.Kind == api.SType
	switch {
	case fresh == there:
		return api.ErrName
	case fresh:
		return refusalOfType(s)
	case c.Kind == api.SAdd:
		return refusalOfAdd(t, c)
	}
	return refusalAtField(t, c)
}

// isFormed holds a change against one that bears only what its kind uses.
func isFormed(c api.Change) bool {
	bare := api.Change{Kind: c.Kind, Type: c.Type}
	switch c.Kind {
	case api.SAdd:
		bare.Field, bare.Def = c.Field, c.Def
	case api.SDrop, api.SWiden:
		bare.Field = c.Field
	case api.SRename:
		bare.Field, bare.To = c.Field, c.To
	case api.SType:
	default:
		return false
	}
	return value.Name(c.Type) && c == bare
}

func refusalOfType(s api.Schema) error {
	if len(s.Types) >= api.MaxTypes {
		return api.ErrLarge
	}
	return nil
}

func refusalOfAdd(t api.Type, c api.Change) error {
	switch {
	case !value.Name(c.Field) || !value.Is(c.Def):
		return api.ErrForm
	case has(t, c.Field):
		return api.ErrName
	case len(t.Fields) >= api.MaxFields:
		return api.ErrLarge
	}
	return nil
}

// refusalAtField is of the changes that want their field to be there.
func refusalAtField(t api.Type, c api.Change) error {
	place := schema.Field(t, c.Field)
	switch {
	case place < 0:
		return api.ErrName
	case c.Kind == api.SRename && !value.Name(c.To):
		return api.ErrForm
	case c.Kind == api.SRename && has(t, c.To):
		return api.ErrName
	case c.Kind == api.SWiden && t.Fields[place].Kind != api.Bool:
		return api.ErrKind
	}
	return nil
}

func has(t api.Type, field string) bool { return schema.Field(t, field) >= 0 }
