package check

import (
	"errors"
	"math"
	"slices"
	"strings"
	"testing"

	"pastern/api"
	"pastern/expr"
	"pastern/parse"
	"pastern/schema"
	"pastern/show"
)

// trades: buy and sell agree in price and item, not in firm; only buy has a
// size; mark's price and item are of other Kinds; idle has no fields.
func trades() api.Schema {
	return api.Schema{Types: []api.Type{
		{Name: "buy", Fields: []api.Field{{Name: "price", Kind: api.Int}, {Name: "item", Kind: api.Str}, {Name: "firm", Kind: api.Bool}, {Name: "size", Kind: api.Int}}},
		{Name: "idle"},
		{Name: "mark", Fields: []api.Field{{Name: "item", Kind: api.Bool}, {Name: "price", Kind: api.Str}}},
		{Name: "sell", Fields: []api.Field{{Name: "item", Kind: api.Str}, {Name: "firm", Kind: api.Int}, {Name: "price", Kind: api.Int}}},
	}}
}

func elem(alias string, types ...string) api.Elem { return api.Elem{Alias: alias, Types: types} }

func lit(kind int) api.Expr { return api.Expr{Op: api.ELit, Val: api.Value{Kind: kind}} }

func at(alias, field string) api.Expr {
	return api.Expr{Op: api.EField, Alias: alias, Field: field}
}

func node(op int, kids ...api.Expr) api.Expr { return api.Expr{Op: op, Kids: kids} }

// cond: the condition that a text tells.
func cond(t *testing.T, s string) api.Expr {
	t.Helper()
	x, err := parse.Expr(s)
	if err != nil {
		t.Fatalf("no condition: %s: %v", s, err)
	}
	return x
}

// errno: an error's number, 0 of none.
func errno(err error) api.Errno {
	var number api.Errno
	if err != nil && !errors.As(err, &number) {
		return -1
	}
	return number
}

// askKind: of x that Kind, or that error and no Kind beside it.
func askKind(t *testing.T, s api.Schema, l []api.Elem, x api.Expr, kind int, want api.Errno) {
	t.Helper()
	got, err := Kind(s, l, x)
	if got != kind || errno(err) != want {
		t.Errorf("P10.1: Kind(%s) among %v = %d, %v; not %d, %d", show.Expr(x), l, got, err, kind, want)
	}
}

func TestKindOfLiterals(t *testing.T) {
	for s, want := range map[string]int{
		"0": api.Int, "-1": api.Int, "9223372036854775807": api.Int,
		`""`: api.Str, `"hay"`: api.Str, `"TRUE"`: api.Str, `"7"`: api.Str,
		"TRUE": api.Bool, "FALSE": api.Bool,
	} {
		askKind(t, trades(), nil, cond(t, s), want, 0)
		askKind(t, api.Schema{}, []api.Elem{elem("a", "none")}, cond(t, s), want, 0)
	}
}

func TestKindOfFields(t *testing.T) {
	for _, c := range []struct {
		types string
		field string
		kind  int
		want  api.Errno
	}{
		{"buy", "price", api.Int, 0},
		{"buy", "item", api.Str, 0},
		{"buy", "firm", api.Bool, 0},
		{"buy", "size", api.Int, 0},
		{"sell", "firm", api.Int, 0},
		{"mark", "price", api.Str, 0},
		{"buy sell", "price", api.Int, 0},
		{"sell buy", "item", api.Str, 0},
		{"buy buy buy", "firm", api.Bool, 0},

		{"none", "price", 0, api.ErrName},
		{"", "price", 0, 0},
		{"idle", "price", 0, api.ErrName},
		{"buy", "none", 0, api.ErrName},
		{"buy", "buy", 0, api.ErrName},
		{"buy sell", "size", 0, api.ErrName},
		{"sell buy", "size", 0, api.ErrName},
		{"buy none", "price", 0, api.ErrName},
		{"none buy", "price", 0, api.ErrName},
		{"buy idle sell", "price", 0, api.ErrName},
		{"bu", "price", 0, api.ErrName},
		{"buyy", "price", 0, api.ErrName},

		{"buy sell", "firm", 0, api.ErrKind},
		{"sell buy", "firm", 0, api.ErrKind},
		{"buy mark", "price", 0, api.ErrKind},
		{"mark sell", "item", 0, api.ErrKind},
		{"buy sell mark", "price", 0, api.ErrKind},
		{"buy mark sell", "price", 0, api.ErrKind},
		{"mark buy sell", "price", 0, api.ErrKind},
		{"buy mark buy", "price", 0, api.ErrKind},

		{"buy mark none", "price", 0, api.ErrName},
		{"none buy mark", "price", 0, api.ErrName},
		{"buy none mark", "price", 0, api.ErrName},
		{"buy mark idle", "price", 0, api.ErrName},
		{"idle mark buy", "item", 0, api.ErrName},
		{"buy sell mark", "firm", 0, api.ErrName},
		{"buy sell none", "firm", 0, api.ErrName},
	} {
		e := elem("a", strings.Fields(c.types)...)
		askKind(t, trades(), []api.Elem{e}, at("a", c.field), c.kind, c.want)
		askKind(t, trades(), []api.Elem{elem("b", "none"), e, elem("c", "idle")}, at("a", c.field), c.kind, c.want)
	}
}

// TestKindOfAFieldOfNoTypes: no type is asked for the field, so it may be any.
func TestKindOfAFieldOfNoTypes(t *testing.T) {
	l := []api.Elem{{Alias: "a"}, {Alias: "b", Types: []string{}}}
	askKind(t, trades(), l, at("a", "price"), 0, 0)
	askKind(t, trades(), l, at("b", "none"), 0, 0)
	askKind(t, api.Schema{}, l, at("a", "price"), 0, 0)
}

func TestKindOfTheFirstElementWithTheAlias(t *testing.T) {
	l := []api.Elem{elem("a", "buy"), elem("b", "mark"), elem("a", "sell"), elem("b", "buy"), elem("a", "none")}
	askKind(t, trades(), l, at("a", "firm"), api.Bool, 0)
	askKind(t, trades(), l, at("b", "price"), api.Str, 0)
	askKind(t, trades(), l, at("b", "size"), 0, api.ErrName)
	askKind(t, trades(), l[1:], at("a", "firm"), api.Int, 0)
	askKind(t, trades(), l[4:], at("a", "firm"), 0, api.ErrName)
	askKind(t, trades(), l[:2], at("c", "price"), 0, api.ErrName)
	askKind(t, trades(), nil, at("a", "price"), 0, api.ErrName)
	askKind(t, trades(), []api.Elem{{Alias: "a"}, elem("a", "buy")}, at("a", "price"), 0, 0)
	askKind(t, trades(), []api.Elem{elem("ab", "buy"), elem("", "buy")}, at("a", "price"), 0, api.ErrName)
}

// TestKindLooksAtTypesAlone: whatever else an element is, it may be named.
func TestKindLooksAtTypesAlone(t *testing.T) {
	for _, e := range []api.Elem{
		{Alias: "a", Types: []string{"buy"}, Not: true},
		{Alias: "a", Types: []string{"buy"}, Plus: true},
		{Alias: "a", Types: []string{"buy"}, Not: true, Plus: true},
		{Alias: "a", Types: []string{"buy"}, Cond: at("z", "none")},
		{Alias: "a", Types: []string{"buy"}, Cond: api.Expr{Op: 99}},
		{Alias: "a", Types: slices.Repeat([]string{"sell", "buy"}, 1000)},
	} {
		askKind(t, trades(), []api.Elem{e}, at("a", "price"), api.Int, 0)
		askKind(t, trades(), []api.Elem{e, e, e, e, e, e, e}, at("a", "price"), api.Int, 0)
	}
}

// operand: a condition, and what it has: a Kind, or an error.
type operand struct {
	x    api.Expr
	kind int
	err  api.Errno
}

// operands of each Kind, of none, and with each error: leaves and nodes.
func operands() ([]api.Elem, []operand) {
	l := []api.Elem{elem("a", "buy"), elem("b", "buy", "sell"), elem("c"), elem("d", "none")}
	return l, []operand{
		{lit(api.Int), api.Int, 0},
		{lit(api.Str), api.Str, 0},
		{lit(api.Bool), api.Bool, 0},
		{at("a", "price"), api.Int, 0},
		{at("b", "item"), api.Str, 0},
		{at("a", "firm"), api.Bool, 0},
		{at("c", "price"), 0, 0},
		{at("z", "price"), 0, api.ErrName},
		{at("d", "price"), 0, api.ErrName},
		{at("b", "firm"), 0, api.ErrKind},
		{node(api.EMul, lit(api.Int), at("b", "price")), api.Int, 0},
		{node(api.ELt, lit(api.Str), at("b", "item")), api.Bool, 0},
		{node(api.ENot, lit(api.Int)), 0, api.ErrKind},
		{node(api.EEq, lit(api.Int), at("a", "none")), 0, api.ErrName},
	}
}

// made: by the chapter's words, what an Op makes of two Kinds; 0: ErrKind.
func made(op, a, b int) int {
	ints, strs, bools := a == api.Int && b == api.Int, a == api.Str && b == api.Str, a == api.Bool && b == api.Bool
	takes := map[int]bool{
		api.EAdd: ints, api.ESub: ints, api.EMul: ints,
		api.ELt: ints || strs, api.ELe: ints || strs,
		api.EEq: a == b, api.ENe: a == b,
		api.EAnd: bools, api.EOr: bools, api.ENot: bools,
	}
	switch {
	case !takes[op]:
		return 0
	case op == api.EAdd || op == api.ESub || op == api.EMul:
		return api.Int
	}
	return api.Bool
}

// TestKindOfEachOp goes through all Ops with all pairs of operands: the first
// one's error, the second one's, the node's own.
func TestKindOfEachOp(t *testing.T) {
	l, all := operands()
	for op := api.EAdd; op <= api.EOr; op++ {
		for _, a := range all {
			for _, b := range all {
				kind, want := made(op, a.kind, b.kind), api.Errno(0)
				switch {
				case a.err != 0:
					kind, want = 0, a.err
				case b.err != 0:
					kind, want = 0, b.err
				case kind == 0:
					want = api.ErrKind
				}
				askKind(t, trades(), l, node(op, a.x, b.x), kind, want)
			}
		}
	}
	for _, a := range all {
		kind, want := made(api.ENot, a.kind, a.kind), a.err
		if want != 0 {
			kind = 0
		} else if kind == 0 {
			want = api.ErrKind
		}
		askKind(t, trades(), l, node(api.ENot, a.x), kind, want)
	}
}

func TestKindOfConditions(t *testing.T) {
	l := []api.Elem{elem("a", "buy"), elem("b", "buy", "sell"), elem("m", "mark")}
	for s, want := range map[string]int{
		"((a.price + b.price) - (2 * a.size))":                 api.Int,
		"((a.price - 1) < (b.price * -2))":                     api.Bool,
		`((a.item = "hay") AND (b.item != a.item))`:            api.Bool,
		`((m.price <= "x") OR (NOT (a.firm AND m.item)))`:      api.Bool,
		"((1 < 2) = (3 < 4))":                                  api.Bool,
		"(((a.price < 1) != TRUE) AND (NOT (NOT a.firm)))":     api.Bool,
		"((((1 + 2) + (3 + 4)) + ((5 + 6) + (7 + 8))) <= 100)": api.Bool,
	} {
		askKind(t, trades(), l, cond(t, s), want, 0)
	}
	for s, want := range map[string]api.Errno{
		`(a.price + "1")`:                      api.ErrKind,
		"((1 < 2) < (3 < 4))":                  api.ErrKind,
		"((1 < 2) + 1)":                        api.ErrKind,
		"(a.price AND TRUE)":                   api.ErrKind,
		"(m.price = a.price)":                  api.ErrKind,
		"(NOT m.price)":                        api.ErrKind,
		"((a.none + 1) = (1 + TRUE))":          api.ErrName,
		"((1 + TRUE) = (a.none + 1))":          api.ErrKind,
		"((NOT (z.x = 1)) AND (b.firm = 1))":   api.ErrName,
		"((NOT (b.firm = 1)) AND (z.x = 1))":   api.ErrKind,
		"(TRUE + z.price)":                     api.ErrName,
		"((TRUE OR (1 AND 2)) = z.price)":      api.ErrKind,
		"((TRUE OR (1 AND z.x)) = (1 + TRUE))": api.ErrName,
		"((1 = 2) = (1 = (2 = (3 = 3))))":      api.ErrKind,
		"(FALSE AND (1 + TRUE))":               api.ErrKind,
		"(TRUE OR z.price)":                    api.ErrName,
	} {
		askKind(t, trades(), l, cond(t, s), 0, want)
	}
}

// TestKindOfNoCondition: ErrForm comes first, whatever else is wrong.
func TestKindOfNoCondition(t *testing.T) {
	deep, wide := at("z", "none"), lit(api.Bool)
	for range api.MaxDepth {
		deep, wide = node(api.ENot, deep), node(api.EAnd, wide, wide)
	}
	many := node(api.EAdd, at("z", "none"), lit(api.Int))
	for range 3 {
		many = node(api.EAdd, many, many)
	}
	for i, x := range []api.Expr{
		{}, {Op: -1}, {Op: api.ENot + 1}, {Op: math.MaxInt}, {Op: math.MinInt}, {Alias: "a", Field: "price"},
		lit(0), lit(4), {Op: api.ELit, Val: api.Value{Kind: api.Bool, N: 2}}, {Op: api.ELit, Val: api.Value{Kind: api.Int}, Alias: "a"},
		at("", "price"), at("a", ""), at("A", "price"), at("a", "ninebytes"), {Op: api.EField, Alias: "a", Field: "price", Val: api.Value{Kind: api.Int}},
		node(api.ENot), node(api.ENot, lit(api.Bool), lit(api.Bool)), node(api.EAdd, lit(api.Int)), node(api.EAdd, lit(api.Int), lit(api.Int), lit(api.Int)),
		node(api.EAnd, at("z", "none"), api.Expr{}), node(api.EAdd, lit(api.Bool), lit(4)), node(api.EAdd, at("b", "firm"), node(api.ENot)),
		deep, wide, many,
	} {
		if kind, err := Kind(trades(), []api.Elem{elem("a", "buy"), elem("b", "buy", "sell")}, x); kind != 0 || errno(err) != api.ErrForm {
			t.Errorf("P10.1: row %d, no condition: %d, %v", i, kind, err)
		}
	}
}

// TestKindAtTheLimits: as deep and as many nodes as may be; and one more.
func TestKindAtTheLimits(t *testing.T) {
	deep := at("a", "firm")
	for range api.MaxDepth - 1 {
		deep = node(api.ENot, deep)
	}
	askKind(t, trades(), []api.Elem{elem("a", "buy")}, deep, api.Bool, 0)
	askKind(t, trades(), []api.Elem{elem("b", "buy")}, deep, 0, api.ErrName)
	askKind(t, trades(), []api.Elem{elem("a", "sell")}, deep, 0, api.ErrKind)
	askKind(t, trades(), []api.Elem{elem("a", "buy")}, node(api.ENot, deep), 0, api.ErrForm)

	// The leaves at a depth of one less than may be leave room for a Not.
	most := ands(12)
	not := node(api.ENot, at("a", "firm"))
	for i, want := range []api.Errno{0, 0, api.ErrForm} {
		if n := len(expr.Nodes(most)); n != api.MaxNodes-1+i || expr.Depth(most) != api.MaxDepth {
			t.Fatalf("a condition of %d nodes, %d deep", n, expr.Depth(most))
		}
		if want != 0 {
			askKind(t, trades(), []api.Elem{elem("a", "buy")}, most, 0, want)
			break
		}
		askKind(t, trades(), []api.Elem{elem("a", "buy")}, most, api.Bool, 0)
		askKind(t, trades(), []api.Elem{elem("a", "sell")}, most, 0, api.ErrKind)
		most.Kids[i].Kids[0].Kids[0] = not
	}
}

// ands: a tree of so many leaves, no deeper than it must be.
func ands(leaves int) api.Expr {
	if leaves == 1 {
		return at("a", "firm")
	}
	return node(api.EAnd, ands(leaves/2), ands(leaves-leaves/2))
}

// TestKindInWhateverSchema: one that is no schema is looked at all the same.
func TestKindInWhateverSchema(t *testing.T) {
	odd := api.Schema{Types: []api.Type{
		{Name: "z", Fields: []api.Field{{Name: "x", Kind: 9}, {Name: "x", Kind: api.Int}}},
		{Name: ""},
		{Name: "a", Fields: []api.Field{{Name: "x", Kind: api.Int}}},
		{Name: "z"},
	}}
	l := []api.Elem{elem("z", "z"), elem("a", "a"), elem("e", ""), elem("b", "a", "z")}
	for _, x := range []api.Expr{at("z", "x"), at("a", "x"), at("e", "x"), at("b", "x"), node(api.EEq, at("z", "x"), at("a", "x")), node(api.EAdd, at("z", "x"), at("z", "x"))} {
		Kind(odd, l, x)
		Kind(api.Schema{}, l, x)
		Pattern(odd, api.Pattern{Elems: []api.Elem{{Alias: "z", Types: []string{"a", "z"}, Cond: x}}, By: "x"})
	}
}

func TestNothingIsChanged(t *testing.T) {
	s, x := trades(), cond(t, "((a.price + b.price) < 7)")
	types := append([]string{"buy", "sell"}, "room")[:2]
	a, b := api.Elem{Alias: "a", Types: types}, api.Elem{Alias: "b", Types: types, Cond: x}
	l := append([]api.Elem{a, b}, elem("room"))[:2]
	for range 3 {
		askKind(t, s, l, x, api.Bool, 0)
		askPattern(t, s, api.Pattern{Elems: l, By: "item"}, 0)
	}
	if !schema.Same(s, trades()) || !expr.Same(x, cond(t, "((a.price + b.price) < 7)")) {
		t.Errorf("P10.1: a call changed its schema or its condition: %v, %v", s, x)
	}
	if !slices.Equal(types[:3], []string{"buy", "sell", "room"}) || l[:3][2].Alias != "room" || l[0].Alias != "a" || l[1].Alias != "b" {
		t.Errorf("P10.2: a call changed its elements: %v", l[:3])
	}
}

func TestKindsMayBeLeftAndGoneThroughAgain(t *testing.T) {
	l := []api.Elem{elem("a", "buy", "mark"), elem("b"), elem("c", "none", "sell")}
	want := []operand{{kind: api.Int}, {kind: api.Str}, {err: api.ErrName}, {kind: api.Int}}
	kids := []api.Expr{at("a", "size"), lit(api.Str), at("z", "x"), at("c", "size")}
	c := scope{trades(), []api.Elem{elem("a", "buy"), elem("c", "buy")}}
	for _, walk := range []kinds{fieldKinds(trades(), "price", l...), c.kinds(kids)} {
		for n := range len(want) + 1 {
			var got []operand
			for kind, err := range walk {
				if len(got) == n {
					break
				}
				got = append(got, operand{kind: kind, err: errno(err)})
				for range walk {
					break
				}
			}
			if !slices.EqualFunc(got, want[:n], func(a, b operand) bool { return a.kind == b.kind && a.err == b.err }) {
				t.Errorf("P10.1: left behind %d: %v", n, got)
			}
		}
	}
}
