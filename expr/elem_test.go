package expr

import (
	"math"
	"slices"
	"strconv"
	"testing"

	"pastern/api"
)

func elem(alias string, types ...string) api.Elem { return api.Elem{Alias: alias, Types: types} }

// rich: a pattern with all there may be: each kind of element, conditions, as
// many types and elements as may be, a window, a field, skipping.
func rich() api.Pattern {
	not, plus, last := elem("b", "idle"), elem("c", "buy", "sell"), elem("e", "sell")
	not.Not, plus.Plus = true, true
	plus.Cond, last.Cond = mixed(), lit(truth(1))
	return api.Pattern{
		Elems:  []api.Elem{elem("a", "ask", "buy", "sell"), not, plus, elem("d", "buy"), last},
		Within: api.MaxWithin,
		By:     "item",
		Any:    true,
	}
}

// changed: rich with one element put otherwise, in new memory.
func changed(i int, change func(e *api.Elem)) api.Pattern {
	p := rich()
	change(&p.Elems[i])
	return p
}

func TestPatternThatMayBe(t *testing.T) {
	plus := elem("a", "buy")
	plus.Plus = true
	for i, p := range []api.Pattern{
		rich(),
		{Elems: []api.Elem{elem("a", "buy")}},
		{Elems: []api.Elem{plus}},
		{Elems: []api.Elem{elem("eightbyt", "eightbyt")}, By: "eightbyt"},
		{Elems: []api.Elem{elem("a", "a"), elem("b", "a")}, By: "a"},
	} {
		if !Pattern(p) {
			t.Errorf("P6.2: row %d isn't a pattern: %+v", i, p)
		}
	}
}

func TestPatternByNumberOfElements(t *testing.T) {
	for n := range 3 * api.MaxElems {
		p := api.Pattern{Elems: []api.Elem{}}
		for i := range n {
			p.Elems = append(p.Elems, elem(string(rune('a'+i)), "buy"))
		}
		if want := 1 <= n && n <= api.MaxElems; Pattern(p) != want {
			t.Errorf("P6.2: Pattern of %d elements: not %v", n, want)
		}
	}
	if Pattern(api.Pattern{}) {
		t.Error("P6.2: a pattern of no elements")
	}
}

// TestPatternByWhereTheNotsStand goes through all rows of elements that are
// plain, Plus, Not, or both at once.
func TestPatternByWhereTheNotsStand(t *testing.T) {
	for n := 1; n <= api.MaxElems; n++ {
		for row := range 1 << (2 * n) {
			p, want := api.Pattern{}, true
			for i := range n {
				e := elem(string(rune('a'+i)), "buy")
				e.Not, e.Plus = row>>(2*i)&1 == 1, row>>(2*i)&2 == 2
				outer := i == 0 || i == n-1
				beside := i > 0 && p.Elems[i-1].Not
				want = want && !(e.Not && (e.Plus || outer || beside))
				p.Elems = append(p.Elems, e)
			}
			if Pattern(p) != want {
				t.Errorf("P6.2: Pattern of %d elements, row %s: not %v", n, strconv.FormatInt(int64(row), 4), want)
			}
		}
	}
}

func TestPatternByAliases(t *testing.T) {
	for i := range rich().Elems {
		for _, alias := range []string{"", "A", "ninebytes", "a b", "x1", "é"} {
			if Pattern(changed(i, func(e *api.Elem) { e.Alias = alias })) {
				t.Errorf("P6.2: element %d has the alias %q", i, alias)
			}
		}
		for k, other := range rich().Elems {
			if want := i == k; Pattern(changed(i, func(e *api.Elem) { e.Alias = other.Alias })) != want {
				t.Errorf("P6.2: elements %d and %d of one alias: not %v", i, k, want)
			}
		}
	}
}

func TestPatternByTypes(t *testing.T) {
	for _, c := range []struct {
		types []string
		want  bool
	}{
		{nil, false},
		{[]string{}, false},
		{[]string{"a"}, true},
		{[]string{"a", "b"}, true},
		{[]string{"a", "aa", "b"}, true},
		{[]string{"a", "b", "c", "d"}, false},
		{[]string{"", "b"}, false},
		{[]string{""}, false},
		{[]string{"b", "a"}, false},
		{[]string{"a", "a"}, false},
		{[]string{"a", "c", "b"}, false},
		{[]string{"a", "b", "b"}, false},
		{[]string{"A", "a"}, false},
		{[]string{"a", "ninebytes"}, false},
		{[]string{"a", "b", "c1"}, false},
		{[]string{"a", "é"}, false},
	} {
		for i := range rich().Elems {
			if Pattern(changed(i, func(e *api.Elem) { e.Types = c.types })) != c.want {
				t.Errorf("P6.2: element %d of the types %q: not %v", i, c.types, c.want)
			}
		}
	}
}

func TestPatternByConditions(t *testing.T) {
	for _, c := range []struct {
		why  string
		x    api.Expr
		want bool
	}{
		{"none", api.Expr{}, true},
		{"none, with an empty list", api.Expr{Kids: []api.Expr{}}, true},
		{"a leaf", field("q", "price"), true},
		{"as deep as may be", chain(api.MaxDepth), true},
		{"no Op, but an alias", api.Expr{Alias: "a"}, false},
		{"no Op, but a field", api.Expr{Field: "a"}, false},
		{"no Op, but a value", api.Expr{Val: num(0)}, false},
		{"no Op, but a kid", api.Expr{Kids: []api.Expr{lit(num(1))}}, false},
		{"no Op, but a kid of none", api.Expr{Kids: []api.Expr{{}}}, false},
		{"an Op that is none", api.Expr{Op: api.ENot + 1}, false},
		{"too deep", chain(api.MaxDepth + 1), false},
		{"too many nodes", full(13), false},
		{"an ill-formed literal", lit(truth(2)), false},
	} {
		for i := range rich().Elems {
			if Pattern(changed(i, func(e *api.Elem) { e.Cond = c.x })) != c.want {
				t.Errorf("P6.2: element %d, a condition (%s): not %v", i, c.why, c.want)
			}
		}
	}
}

func TestPatternByWindow(t *testing.T) {
	for _, c := range []struct {
		within int
		want   bool
	}{
		{0, true}, {1, true}, {api.MaxWithin - 1, true}, {api.MaxWithin, true},
		{-1, false}, {api.MaxWithin + 1, false}, {math.MinInt, false}, {math.MaxInt, false}, {1 << 32, false},
	} {
		p := rich()
		p.Within = c.within
		if Pattern(p) != c.want {
			t.Errorf("P6.2: Pattern within %d: not %v", c.within, c.want)
		}
	}
}

func TestPatternByField(t *testing.T) {
	for _, c := range []struct {
		by   string
		want bool
	}{
		{"", true}, {"a", true}, {"eightbyt", true},
		{"ninebytes", false}, {"ID", false}, {" ", false}, {"a1", false}, {"é", false},
	} {
		for _, skips := range []bool{false, true} {
			p := rich()
			p.By, p.Any = c.by, skips
			if Pattern(p) != c.want {
				t.Errorf("P6.2: Pattern by %q: not %v", c.by, c.want)
			}
		}
	}
}

func TestSamePatternByEachPart(t *testing.T) {
	others := map[string]func(p *api.Pattern){
		"within":        func(p *api.Pattern) { p.Within-- },
		"by":            func(p *api.Pattern) { p.By = "price" },
		"by nothing":    func(p *api.Pattern) { p.By = "" },
		"any":           func(p *api.Pattern) { p.Any = !p.Any },
		"one less":      func(p *api.Pattern) { p.Elems = p.Elems[:4] },
		"one more":      func(p *api.Pattern) { p.Elems = append(p.Elems, api.Elem{}) },
		"no elements":   func(p *api.Pattern) { p.Elems = nil },
		"another order": func(p *api.Pattern) { slices.Reverse(p.Elems) },
	}
	parts := map[string]func(e *api.Elem){
		"alias":        func(e *api.Elem) { e.Alias += "x" },
		"plus":         func(e *api.Elem) { e.Plus = !e.Plus },
		"not":          func(e *api.Elem) { e.Not = !e.Not },
		"plus and not": func(e *api.Elem) { e.Plus, e.Not = !e.Plus, !e.Not },
		"no types":     func(e *api.Elem) { e.Types = nil },
		"a type more":  func(e *api.Elem) { e.Types = append(slices.Clone(e.Types), "z") },
		"other types":  func(e *api.Elem) { e.Types = append(slices.Clone(e.Types[1:]), "z") },
		"condition":    func(e *api.Elem) { e.Cond = node(api.ENot, e.Cond) },
		"deep down":    func(e *api.Elem) { e.Cond = api.Expr{Op: e.Cond.Op, Val: e.Cond.Val, Kids: e.Cond.Kids, Field: "x"} },
	}
	for name, change := range parts {
		for i := range rich().Elems {
			others[name+" of "+strconv.Itoa(i)] = func(p *api.Pattern) { change(&p.Elems[i]) }
		}
	}
	for name, change := range others {
		p := rich()
		change(&p)
		if SamePattern(rich(), p) || SamePattern(p, rich()) {
			t.Errorf("P6.2: SamePattern, though it differs: %s", name)
		}
		if !SamePattern(p, p) {
			t.Errorf("P6.2: a pattern isn't the same as itself: %s", name)
		}
	}
}

func TestSamePatternWhereverItLies(t *testing.T) {
	if !SamePattern(rich(), rich()) {
		t.Error("P6.2: a pattern made again isn't the same")
	}
	empty := api.Pattern{Elems: []api.Elem{}}
	if !SamePattern(empty, api.Pattern{}) || !SamePattern(api.Pattern{}, empty) {
		t.Error("P6.2: no elements and an empty list of them differ")
	}
	bare := api.Pattern{Elems: []api.Elem{{}}}
	if !SamePattern(bare, api.Pattern{Elems: []api.Elem{{Types: []string{}, Cond: api.Expr{Kids: []api.Expr{}}}}}) {
		t.Error("P6.2: no types and an empty list of them differ")
	}
	if SamePattern(bare, api.Pattern{}) {
		t.Error("P6.2: an element of nothing is none")
	}
}

// TestWhatOneMayAskFor: the limits all at once, and one past each of them.
func TestWhatOneMayAskFor(t *testing.T) {
	most := func(depth, leaves, types, elems int) api.Pattern {
		var p api.Pattern
		for i := range elems {
			e := elem(string(rune('a'+i)), []string{"a", "b", "c", "d"}[:types]...)
			e.Cond = full(leaves)
			if i == 0 {
				e.Cond = chain(depth)
			}
			p.Elems = append(p.Elems, e)
		}
		return p
	}
	if !Pattern(most(api.MaxDepth, 12, api.MaxAlts, api.MaxElems)) {
		t.Error("P6.3: what reaches the limits may not be asked for")
	}
	for i, p := range []api.Pattern{
		most(api.MaxDepth+1, 12, api.MaxAlts, api.MaxElems),
		most(api.MaxDepth, 13, api.MaxAlts, api.MaxElems),
		most(api.MaxDepth, 12, api.MaxAlts+1, api.MaxElems),
		most(api.MaxDepth, 12, api.MaxAlts, api.MaxElems+1),
	} {
		if Pattern(p) {
			t.Errorf("P6.3: limit %d may be passed", i)
		}
	}
}
