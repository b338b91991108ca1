package chain

import (
	"iter"
	"slices"

	"pastern/api"
	"pastern/evolve"
	"pastern/schema"
)

// versions: each version with its schema, from the first one on, in memory of
// its own. All changes have been taken by Add: none is refused here.
func (c *Chain) versions() iter.Seq2[int, api.Schema] {
	return func(yield func(int, api.Schema) bool) {
		s := copied(c.first)
		for v, x := range c.changes {
			if !yield(v, s) {
				return
			}
			s, _ = evolve.Apply(s, x)
		}
		yield(len(c.changes), s)
	}
}

// steps: the changes between two versions that are there, each with the schema
// that it is a change of.
func (c *Chain) steps(from, to int) iter.Seq2[api.Schema, api.Change] {
	return func(yield func(api.Schema, api.Change) bool) {
		for v, s := range c.versions() {
			if v >= to {
				return
			}
			if v >= from && !yield(s, c.changes[v]) {
				return
			}
		}
	}
}

// spans tells whether both versions are there, the elder one first.
func (c *Chain) spans(from, to int) bool {
	return 0 <= from && from <= to && to <= c.Now()
}

func (c *Chain) has(typ, field string, version int) bool {
	s, _ := c.At(version)
	t, there := schema.Find(s, typ)
	return there && schema.Field(t, field) >= 0
}

func copied(s api.Schema) api.Schema {
	types := slices.Clone(s.Types)
	for i, t := range types {
		types[i].Fields = slices.Clone(t.Fields)
	}
	return api.Schema{Types: types}
}
