package check

import (
	"math"
	"math/rand/v2"
	"slices"
	"testing"

	"pastern/api"
	"pastern/event"
	"pastern/expr"
	"pastern/schema"
	"pastern/show"
)

// tell: what a condition has for the events that its aliases stand for, every
// kid gone through. A number may grow too great: that no schema rules out.
func tell(s api.Schema, x api.Expr, bound map[string]api.Event) (api.Value, api.Errno) {
	switch x.Op {
	case api.ELit:
		return x.Val, 0
	case api.EField:
		e, there := bound[x.Alias]
		v, has := event.Get(s, e, x.Field)
		if !there || !has {
			return api.Value{}, api.ErrName
		}
		return v, 0
	}
	var kids []api.Value
	for _, kid := range x.Kids {
		v, err := tell(s, kid, bound)
		if err != 0 {
			return api.Value{}, err
		}
		kids = append(kids, v)
	}
	return apply(x.Op, kids[0], kids[len(kids)-1])
}

// apply cares for Kinds alone: what a Bool is, none of these tests asks.
func apply(op int, a, b api.Value) (api.Value, api.Errno) {
	if a.Kind != b.Kind {
		return api.Value{}, api.ErrKind
	}
	out := api.Value{Kind: api.Bool, N: (a.N ^ b.N) & 1}
	switch op {
	case api.EAdd, api.ESub, api.EMul:
		if a.Kind != api.Int {
			return api.Value{}, api.ErrKind
		}
		out.Kind = api.Int
	case api.ELt, api.ELe:
		if a.Kind == api.Bool {
			return api.Value{}, api.ErrKind
		}
	case api.EAnd, api.EOr, api.ENot:
		if a.Kind != api.Bool {
			return api.Value{}, api.ErrKind
		}
	}
	return out, 0
}

// A maker draws patterns, many of which suit trades: the same ones each time.
type maker struct{ *rand.Rand }

func pick[T any](m maker, l []T) T { return l[m.IntN(len(l))] }

// slip: now and then something else than would suit.
func (m maker) slip() bool { return m.IntN(80) == 0 }

func (m maker) types() []string {
	all := []string{"buy", "idle", "mark", "none", "sell"}
	weight := []int{3, 30, 8, 60, 3}
	var out []string
	for i, name := range all {
		if m.IntN(weight[i]) == 0 && len(out) < api.MaxAlts {
			out = append(out, name)
		}
	}
	if len(out) == 0 {
		return []string{pick(m, []string{"buy", "sell"})}
	}
	return out
}

// leaf: of that Kind, if nothing slips.
func (m maker) leaf(named []api.Elem, kind int) api.Expr {
	if m.IntN(3) == 0 {
		return lit(kind)
	}
	e := pick(m, named)
	t, _ := schema.Find(trades(), pick(m, e.Types))
	fields := slices.DeleteFunc(t.Fields, func(f api.Field) bool { return f.Kind != kind })
	if len(fields) == 0 {
		return lit(kind)
	}
	return at(e.Alias, pick(m, fields).Name)
}

func (m maker) cond(named []api.Elem, kind, depth int) api.Expr {
	kinds := []int{api.Int, api.Str, api.Bool}
	if m.slip() {
		kind = pick(m, kinds)
	}
	two := func(kind int, ops ...int) api.Expr {
		return node(pick(m, ops), m.cond(named, kind, depth-1), m.cond(named, kind, depth-1))
	}
	switch {
	case depth == 1 || kind == api.Str || m.IntN(4) == 0:
		return m.leaf(named, kind)
	case kind == api.Int:
		return two(api.Int, api.EAdd, api.ESub, api.EMul)
	}
	switch m.IntN(4) {
	case 0:
		return node(api.ENot, m.cond(named, api.Bool, depth-1))
	case 1:
		return two(api.Bool, api.EAnd, api.EOr)
	case 2:
		return two(pick(m, kinds[:2]), api.ELt, api.ELe)
	}
	return two(pick(m, kinds), api.EEq, api.ENe)
}

func (m maker) pattern() api.Pattern {
	p, named := api.Pattern{}, []api.Elem(nil)
	n, not := 1+m.IntN(4), true
	for i, alias := range []string{"d", "b", "c", "a"}[:n] {
		not = !not && i < n-1 && m.IntN(3) == 0
		e := api.Elem{Alias: alias, Types: m.types(), Not: not}
		if m.IntN(2) == 0 {
			e.Cond = m.cond(append(slices.Clone(named), e), api.Bool, 1+m.IntN(4))
		}
		if !e.Not || m.slip() {
			named = append(named, e)
		}
		p.Elems = append(p.Elems, e)
	}
	if m.IntN(2) == 0 {
		p.By = pick(m, []string{"price", "item", "firm", "size"})
	}
	return p
}

// draw: a pattern that may be. (Its conditions may be too large.)
func (m maker) draw() api.Pattern {
	for {
		if p := m.pattern(); expr.Pattern(p) {
			return p
		}
	}
}

// event: one of that type, if there is such a type.
func (m maker) event(typ string) api.Event {
	t, _ := schema.Find(trades(), typ)
	e := api.Event{Type: typ}
	for _, f := range t.Fields {
		v := api.Value{Kind: f.Kind}
		switch f.Kind {
		case api.Int:
			v.N = pick(m, []int64{0, 1, -7, math.MaxInt64, math.MinInt64})
		case api.Str:
			v.S = pick(m, []string{"", "hay"})
		case api.Bool:
			v.N = m.Int64N(2)
		}
		e.Vals = append(e.Vals, v)
	}
	return e
}

// choices: all ways to take one type of each element.
func choices(l []api.Elem) [][]string {
	out := [][]string{nil}
	for _, e := range l {
		var more [][]string
		for _, ahead := range out {
			for _, name := range e.Types {
				more = append(more, append(slices.Clone(ahead), name))
			}
		}
		out = more
	}
	return out
}

// canBeTold tells, by events of all types that may come, whether each condition
// comes to a Bool and each event has a value in By. What Kinds each field has
// in its element, and By in all of them, is put down in seen.
func (m maker) canBeTold(p api.Pattern, seen map[[2]string][]int) bool {
	told := true
	for _, types := range choices(p.Elems) {
		bound := map[string]api.Event{}
		for i, e := range p.Elems {
			if !schemaHas(types[i]) {
				return false
			}
			now := m.event(types[i])
			if v, has := event.Get(trades(), now, p.By); has {
				seen[[2]string{"", p.By}] = append(seen[[2]string{"", p.By}], v.Kind)
			} else if p.By != "" {
				told = false
			}
			bound[e.Alias] = now
			for _, x := range expr.Nodes(e.Cond) {
				if v, has := event.Get(trades(), bound[x.Alias], x.Field); has {
					seen[[2]string{x.Alias, x.Field}] = append(seen[[2]string{x.Alias, x.Field}], v.Kind)
				}
			}
			if e.Cond.Op != 0 {
				v, err := tell(trades(), e.Cond, bound)
				told = told && err == 0 && v.Kind == api.Bool
			}
			if e.Not {
				delete(bound, e.Alias)
			}
		}
	}
	return told
}

func schemaHas(typ string) bool {
	_, there := schema.Find(trades(), typ)
	return there
}

// TestNoConditionThatCantBeTold: of a pattern that suits the schema each
// condition comes to a Bool, whatever events of its types come, and each event
// has a value in By, all of one Kind. One that doesn't suit has a condition
// that doesn't, or a field that is of one Kind here and of another one there.
func TestNoConditionThatCantBeTold(t *testing.T) {
	m := maker{rand.New(rand.NewPCG(10, 3))}
	suit, not := 0, 0
	for range 40000 {
		p := m.draw()
		seen := map[[2]string][]int{}
		want := m.canBeTold(p, seen)
		for _, l := range seen {
			want = want && slices.Min(l) == slices.Max(l)
		}
		err := Pattern(trades(), p)
		if (err == nil) != want {
			t.Fatalf("P10.3: Pattern(%s) = %v, but it can be told: %v", show.Pattern(p), err, want)
		}
		if want {
			suit++
		} else {
			not++
		}
	}
	if suit < 8000 || not < 8000 {
		t.Errorf("not a fair test: %d suit, %d don't", suit, not)
	}
}

// TestWhatTheKindSays: a condition has the Kind that Kind tells.
func TestWhatTheKindSays(t *testing.T) {
	m := maker{rand.New(rand.NewPCG(10, 4))}
	named := []api.Elem{elem("a", "buy"), elem("b", "buy", "sell"), elem("c", "mark")}
	told := map[int]int{}
	for range 40000 {
		x := m.cond(named, pick(m, []int{api.Int, api.Str, api.Bool}), 1+m.IntN(4))
		kind, err := Kind(trades(), named, x)
		if err != nil {
			continue
		}
		told[kind]++
		for _, types := range choices(named) {
			bound := map[string]api.Event{}
			for i, e := range named {
				bound[e.Alias] = m.event(types[i])
			}
			if v, err := tell(trades(), x, bound); err != 0 || v.Kind != kind {
				t.Fatalf("P10.3: %s is %v, %v, not of Kind %d", show.Expr(x), v, err, kind)
			}
		}
	}
	if told[api.Int] < 5000 || told[api.Str] < 5000 || told[api.Bool] < 5000 {
		t.Errorf("not a fair test: %v", told)
	}
}
