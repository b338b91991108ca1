package show

import (
	"math"
	"slices"
	"strings"
	"testing"

	"pastern/api"
	"pastern/expr"
	"pastern/value"
)

func num(n int64) api.Value { return api.Value{Kind: api.Int, N: n} }

func str(s string) api.Value { return api.Value{Kind: api.Str, S: s} }

func boolean(n int64) api.Value { return api.Value{Kind: api.Bool, N: n} }

func lit(v api.Value) api.Expr { return api.Expr{Op: api.ELit, Val: v} }

func field(alias, name string) api.Expr {
	return api.Expr{Op: api.EField, Alias: alias, Field: name}
}

func node(op int, kids ...api.Expr) api.Expr { return api.Expr{Op: op, Kids: kids} }

func elem(alias string, types ...string) api.Elem { return api.Elem{Alias: alias, Types: types} }

func asks(e api.Elem, x api.Expr) api.Elem {
	e.Cond = x
	return e
}

func some(e api.Elem) api.Elem {
	e.Plus = true
	return e
}

func none(e api.Elem) api.Elem {
	e.Not = true
	return e
}

// full: a tree of two kids each, so many leaves, no deeper than it must be.
func full(leaves int) api.Expr {
	if leaves == 1 {
		return lit(num(1))
	}
	return node(api.EAdd, full(leaves/2), full(leaves-leaves/2))
}

// nested: a field under so many Nots.
func nested(nots int) api.Expr {
	x := field("a", "b")
	for range nots {
		x = node(api.ENot, x)
	}
	return x
}

func TestIntsAreDecimal(t *testing.T) {
	for n, want := range map[int64]string{
		0: "0", 7: "7", -1: "-1", 10: "10", -10: "-10", 1000000: "1000000",
		math.MaxInt32: "2147483647", math.MinInt32: "-2147483648",
		math.MaxInt64: "9223372036854775807", math.MinInt64: "-9223372036854775808",
	} {
		if got := Value(num(n)); got != want {
			t.Errorf("P8.1: Value of the Int %d: %q", n, got)
		}
	}
}

func TestBoolsAreGreatWords(t *testing.T) {
	if got := Value(boolean(1)); got != "TRUE" {
		t.Errorf("P8.1: Value of true: %q", got)
	}
	if got := Value(boolean(0)); got != "FALSE" {
		t.Errorf("P8.1: Value of false: %q", got)
	}
}

func TestStrsStandInQuotes(t *testing.T) {
	for s, want := range map[string]string{
		"":                 `""`,
		" ":                `" "`,
		"hay":              `"hay"`,
		"a b":              `"a b"`,
		"TRUE":             `"TRUE"`,
		"5":                `"5"`,
		`"`:                `"\""`,
		`\`:                `"\\"`,
		`""`:               `"\"\""`,
		`\\`:               `"\\\\"`,
		`\"`:               `"\\\""`,
		`"\`:               `"\"\\"`,
		`say "a\b"!`:       `"say \"a\\b\"!"`,
		`\n`:               `"\\n"`,
		"sixteen bytes so": `"sixteen bytes so"`,
		"' ` ~ / { } [ ]":  "\"' ` ~ / { } [ ]\"",
	} {
		if got := Value(str(s)); got != want {
			t.Errorf("P8.1: Value of the Str %q: %s, not %s", s, got, want)
		}
	}
}

func TestStrsByBytes(t *testing.T) {
	for b := range 256 {
		one := string([]byte{byte(b)})
		inner := one
		if one == `"` || one == `\` {
			inner = `\` + one
		}
		for _, around := range [][2]string{{"", ""}, {"x", ""}, {"", "x"}, {"x ", " x"}} {
			want := `"` + around[0] + inner + around[1] + `"`
			if b < 32 || b > 126 {
				want = ""
			}
			if got := Value(str(around[0] + one + around[1])); got != want {
				t.Errorf("P8.1: Value of a Str with the byte %d: %q, not %q", b, got, want)
			}
		}
	}
}

func TestStrsByLength(t *testing.T) {
	for n := range 3 * api.MaxText {
		for inner, shown := range map[string]string{"x": "x", `"`: `\"`, `\`: `\\`} {
			want := `"` + strings.Repeat(shown, n) + `"`
			if n > api.MaxText {
				want = ""
			}
			if got := Value(str(strings.Repeat(inner, n))); got != want {
				t.Errorf("P8.1: Value of a Str of %d bytes: %s, not %s", n, got, want)
			}
		}
	}
}

// noValues: what isn't value's Is, by each of its parts.
func noValues() []api.Value {
	return []api.Value{
		{}, {N: 1}, {S: "x"}, {Kind: api.Int - 1, N: 5}, {Kind: api.Bool + 1}, {Kind: -api.Int},
		{Kind: math.MaxInt}, {Kind: math.MinInt},
		{Kind: api.Int, S: "x"}, {Kind: api.Int, N: 5, S: "5"},
		{Kind: api.Str, N: 1}, {Kind: api.Str, N: -1, S: "x"},
		{Kind: api.Bool, N: 2}, {Kind: api.Bool, N: -1}, {Kind: api.Bool, N: 1<<32 + 1}, {Kind: api.Bool, N: math.MinInt64},
		{Kind: api.Bool, S: "x"}, {Kind: api.Bool, N: 1, S: "TRUE"},
		str("seventeen bytes s"), str("\n"), str("\x00"), str("\x7f"), str("é"), str("a\xff"),
		str(strings.Repeat("x", 1<<20)),
	}
}

func TestNoValueIsNoText(t *testing.T) {
	for _, v := range noValues() {
		if value.Is(v) {
			t.Fatalf("it is a value: %+v", v)
		}
		if got := Value(v); got != "" {
			t.Errorf("P8.1: Value of what is none, %+.40v: %q", v, got)
		}
		for _, x := range []api.Expr{lit(v), node(api.ENot, lit(v)), node(api.EEq, field("a", "n"), lit(v)), node(api.EEq, lit(v), field("a", "n"))} {
			if got := Expr(x); got != "" {
				t.Errorf("P8.1: Expr with what is no value, %+.40v: %q", v, got)
			}
		}
		if got := Pattern(api.Pattern{Elems: []api.Elem{asks(elem("a", "b"), lit(v))}}); got != "" {
			t.Errorf("P8.1: Pattern with what is no value, %+.40v: %q", v, got)
		}
	}
}

func TestLeaves(t *testing.T) {
	for _, v := range []api.Value{
		num(0), num(-5), num(math.MaxInt64), num(math.MinInt64), str(""), str(`a"b\c`), str("sixteen bytes so"), boolean(0), boolean(1),
	} {
		if got := Expr(lit(v)); got == "" || got != Value(v) {
			t.Errorf("P8.1: Expr of a literal: %q, Value of it: %q", got, Value(v))
		}
	}
	for want, x := range map[string]api.Expr{
		"a.b":               field("a", "b"),
		"b.a":               field("b", "a"),
		"eightbyt.price":    field("eightbyt", "price"),
		"price.eightbyt":    field("price", "eightbyt"),
		"zzzzzzzz.aaaaaaaa": field("zzzzzzzz", "aaaaaaaa"),
	} {
		if got := Expr(x); got != want {
			t.Errorf("P8.1: Expr of a field: %q, not %q", got, want)
		}
	}
}

func TestSigns(t *testing.T) {
	for i, sign := range strings.Fields("+ - * = != < <= AND OR") {
		op := api.EAdd + i
		for want, x := range map[string]api.Expr{
			"(a.n " + sign + " 1)":                node(op, field("a", "n"), lit(num(1))),
			"(1 " + sign + " a.n)":                node(op, lit(num(1)), field("a", "n")),
			"(-1 " + sign + " -1)":                node(op, lit(num(-1)), lit(num(-1))),
			`("x" ` + sign + ` TRUE)`:             node(op, lit(str("x")), lit(boolean(1))),
			"((1 " + sign + " 2) " + sign + " 3)": node(op, node(op, lit(num(1)), lit(num(2))), lit(num(3))),
			"(1 " + sign + " (2 " + sign + " 3))": node(op, lit(num(1)), node(op, lit(num(2)), lit(num(3)))),
			"(NOT (1 " + sign + " 2))":            node(api.ENot, node(op, lit(num(1)), lit(num(2)))),
			"((NOT 1) " + sign + " (NOT 2))":      node(op, node(api.ENot, lit(num(1))), node(api.ENot, lit(num(2)))),
		} {
			if got := Expr(x); got != want {
				t.Errorf("P8.1: Expr: %s, not %s", got, want)
			}
		}
	}
}

func TestNots(t *testing.T) {
	for nots, want := range []string{"a.b", "(NOT a.b)", "(NOT (NOT a.b))", "(NOT (NOT (NOT a.b)))", "(NOT (NOT (NOT (NOT a.b))))", "", "", ""} {
		if got := Expr(nested(nots)); got != want {
			t.Errorf("P8.1: Expr of %d Nots: %q, not %q", nots, got, want)
		}
	}
}

func TestConditionOfManyNodes(t *testing.T) {
	x := node(api.EAnd,
		node(api.ENot, node(api.EEq, field("a", "item"), lit(str(`"hay"`)))),
		node(api.EOr,
			node(api.ELe, node(api.EMul, field("b", "price"), lit(num(-3))), lit(num(9))),
			lit(boolean(0))))
	if got, want := Expr(x), `((NOT (a.item = "\"hay\"")) AND (((b.price * -3) <= 9) OR FALSE))`; got != want {
		t.Errorf("P8.1: Expr: %s, not %s", got, want)
	}
}

func TestExprByDepthAndNodes(t *testing.T) {
	left, right := lit(num(1)), lit(num(1))
	wantLeft, wantRight := "1", "1"
	for depth := 1; depth <= 30; depth++ {
		if depth > api.MaxDepth {
			wantLeft, wantRight = "", ""
		}
		if got := Expr(left); got != wantLeft {
			t.Errorf("P8.1: Expr at depth %d, on the left: %q, not %q", depth, got, wantLeft)
		}
		if got := Expr(right); got != wantRight {
			t.Errorf("P8.1: Expr at depth %d, on the right: %q, not %q", depth, got, wantRight)
		}
		left, right = node(api.ESub, left, lit(num(2))), node(api.ESub, lit(num(2)), right)
		wantLeft, wantRight = "("+wantLeft+" - 2)", "(2 - "+wantRight+")"
	}
	at := full(12)
	if n := len(expr.Nodes(at)); n != api.MaxNodes-1 {
		t.Fatalf("the tree to start from has %d nodes", n)
	}
	half := "((1 + (1 + 1)) + (1 + (1 + 1)))"
	if got := Expr(at); got != "("+half+" + "+half+")" {
		t.Errorf("P8.1: Expr of one node less than may be: %q", got)
	}
	at.Kids[0] = node(api.EAdd, at.Kids[0].Kids[0], node(api.ESub, lit(num(2)), node(api.ENot, lit(num(3)))))
	if n := len(expr.Nodes(at)); n != api.MaxNodes-2 {
		t.Fatalf("the second tree has %d nodes", n)
	}
	at.Kids[0].Kids[0].Kids[0] = node(api.EMul, lit(num(4)), lit(num(5)))
	if got := Expr(at); got != "((((4 * 5) + (1 + 1)) + (2 - (NOT 3))) + "+half+")" {
		t.Errorf("P8.1: Expr of as many nodes as may be: %q", got)
	}
	at.Kids[0].Kids[1].Kids[0] = node(api.ENot, lit(num(2)))
	if got := Expr(at); got != "" {
		t.Errorf("P8.1: Expr of a node more than may be: %q", got)
	}
}

// noConditions: what isn't expr's Is, but for its literals.
func noConditions() []api.Expr {
	l := []api.Expr{
		{}, {Alias: "a", Field: "b"}, {Val: num(1)}, {Kids: []api.Expr{lit(num(1))}}, {Kids: []api.Expr{lit(num(1)), lit(num(2))}},
		{Op: -1}, {Op: -api.EAdd}, {Op: api.ENot + 1, Kids: []api.Expr{lit(num(1))}}, {Op: math.MaxInt}, {Op: math.MinInt},
		field("", "b"), field("a", ""), field("A", "b"), field("a", "B"), field("ninebytes", "b"), field("a", "ninebytes"), field("a.", "b"), field("a", "b c"),
		{Op: api.EField, Alias: "a", Field: "b", Val: num(0)},
		{Op: api.EField, Alias: "a", Field: "b", Kids: []api.Expr{lit(num(1))}},
		{Op: api.ELit, Val: num(1), Alias: "a"}, {Op: api.ELit, Val: num(1), Field: "b"},
		{Op: api.ELit, Val: num(1), Kids: []api.Expr{{}}},
		{Op: api.ENot, Kids: []api.Expr{lit(num(1))}, Alias: "a"},
		{Op: api.EAdd, Kids: []api.Expr{lit(num(1)), lit(num(2))}, Field: "b"},
		{Op: api.EOr, Kids: []api.Expr{lit(num(1)), lit(num(2))}, Val: num(0)},
		node(api.ENot, nested(4)), full(13), full(1 << 12),
	}
	for op := api.EAdd; op <= api.ENot; op++ {
		for n := range 5 {
			if n != expr.Kids(op) {
				l = append(l, node(op, slices.Repeat([]api.Expr{lit(num(1))}, n)...))
			}
		}
	}
	return l
}

func TestNoConditionIsNoText(t *testing.T) {
	for i, x := range noConditions() {
		if expr.Is(x) {
			t.Fatalf("row %d is a condition", i)
		}
		for _, y := range []api.Expr{x, node(api.ENot, x), node(api.EAdd, x, lit(num(1))), node(api.EAdd, lit(num(1)), x), node(api.ENot, node(api.EAdd, lit(num(1)), node(api.ENot, x)))} {
			if got := Expr(y); got != "" {
				t.Errorf("P8.1: Expr with what is none, row %d: %q", i, got)
			}
		}
		p := api.Pattern{Elems: []api.Elem{elem("a", "b"), asks(elem("c", "d"), x)}}
		want := ""
		if expr.Same(x, api.Expr{}) {
			want = "SEQ(a:b, c:d) WITHIN 0"
		}
		if got := Pattern(p); got != want {
			t.Errorf("P8.1: Pattern with what is no condition, row %d: %q, not %q", i, got, want)
		}
	}
}

func TestPatterns(t *testing.T) {
	cond := node(api.ELt, field("a", "price"), lit(num(10)))
	for want, p := range map[string]api.Pattern{
		"SEQ(a:b) WITHIN 0":                 {Elems: []api.Elem{elem("a", "b")}},
		"SEQ(a:b) WITHIN 5":                 {Elems: []api.Elem{elem("a", "b")}, Within: 5},
		"SEQ(a:b) WITHIN 1000":              {Elems: []api.Elem{elem("a", "b")}, Within: api.MaxWithin},
		"SEQ(a:b) WITHIN 5 BY c":            {Elems: []api.Elem{elem("a", "b")}, Within: 5, By: "c"},
		"SEQ(a:b) WITHIN 5 ANY":             {Elems: []api.Elem{elem("a", "b")}, Within: 5, Any: true},
		"SEQ(a:b) WITHIN 5 BY any ANY":      {Elems: []api.Elem{elem("a", "b")}, Within: 5, By: "any", Any: true},
		"SEQ(a:b|c) WITHIN 0":               {Elems: []api.Elem{elem("a", "b", "c")}},
		"SEQ(a:b|c|d) WITHIN 0":             {Elems: []api.Elem{elem("a", "b", "c", "d")}},
		"SEQ(a:b+) WITHIN 0":                {Elems: []api.Elem{some(elem("a", "b"))}},
		"SEQ(a:b|c+) WITHIN 0":              {Elems: []api.Elem{some(elem("a", "b", "c"))}},
		"SEQ(a:b[(a.price < 10)]) WITHIN 0": {Elems: []api.Elem{asks(elem("a", "b"), cond)}},
		"SEQ(a:b|c+[(a.price < 10)]) WITHIN 0": {
			Elems: []api.Elem{asks(some(elem("a", "b", "c")), cond)}},
		"SEQ(a:b[TRUE]) WITHIN 0":     {Elems: []api.Elem{asks(elem("a", "b"), lit(boolean(1)))}},
		"SEQ(a:b[FALSE]) WITHIN 0":    {Elems: []api.Elem{asks(elem("a", "b"), lit(boolean(0)))}},
		"SEQ(a:b[0]) WITHIN 0":        {Elems: []api.Elem{asks(elem("a", "b"), lit(num(0)))}},
		`SEQ(a:b["]\""]) WITHIN 0`:    {Elems: []api.Elem{asks(elem("a", "b"), lit(str(`]"`)))}},
		"SEQ(a:b[a.b]) WITHIN 0":      {Elems: []api.Elem{asks(elem("a", "b"), field("a", "b"))}},
		"SEQ(a:b, c:b) WITHIN 0":      {Elems: []api.Elem{elem("a", "b"), elem("c", "b")}},
		"SEQ(a:b, c:b+) WITHIN 0":     {Elems: []api.Elem{elem("a", "b"), some(elem("c", "b"))}},
		"SEQ(a:b+, c:b+) WITHIN 0":    {Elems: []api.Elem{some(elem("a", "b")), some(elem("c", "b"))}},
		"SEQ(b:z, a:y, c:x) WITHIN 7": {Elems: []api.Elem{elem("b", "z"), elem("a", "y"), elem("c", "x")}, Within: 7},
		"SEQ(a:b, !c:d, e:f) WITHIN 0": {
			Elems: []api.Elem{elem("a", "b"), none(elem("c", "d")), elem("e", "f")}},
		"SEQ(a:b, !c:d|e[(a.price < 10)], f:g) WITHIN 0": {
			Elems: []api.Elem{elem("a", "b"), asks(none(elem("c", "d", "e")), cond), elem("f", "g")}},
		"SEQ(a:ask|buy|sell[a.item], !b:idle, c:buy|sell+[(NOT (a.price < 10))], !d:buy, eightbyt:eightbyt[\"x\"]) WITHIN 1000 BY eightbyt ANY": {
			Elems: []api.Elem{
				asks(elem("a", "ask", "buy", "sell"), field("a", "item")), none(elem("b", "idle")),
				asks(some(elem("c", "buy", "sell")), node(api.ENot, cond)), none(elem("d", "buy")),
				asks(elem("eightbyt", "eightbyt"), lit(str("x"))),
			}, Within: 1000, By: "eightbyt", Any: true},
	} {
		if !expr.Pattern(p) {
			t.Fatalf("no pattern: %+v", p)
		}
		if got := Pattern(p); got != want {
			t.Errorf("P8.1: Pattern: %s, not %s", got, want)
		}
	}
}

func TestPatternByNumberOfElements(t *testing.T) {
	var p api.Pattern
	want := "SEQ("
	for n := 1; n <= 3*api.MaxElems; n++ {
		alias := string(rune('a' + n))
		p.Elems = append(p.Elems, elem(alias, "x"))
		if n > 1 {
			want += ", "
		}
		want += alias + ":x"
		got := Pattern(p)
		if n <= api.MaxElems && got != want+") WITHIN 0" || n > api.MaxElems && got != "" {
			t.Errorf("P8.1: Pattern of %d elements: %q", n, got)
		}
	}
}

func TestNoPatternIsNoText(t *testing.T) {
	one := []api.Elem{elem("a", "b")}
	for why, p := range map[string]api.Pattern{
		"nothing":                  {},
		"no elements":              {Within: 5, By: "c", Any: true},
		"no alias":                 {Elems: []api.Elem{elem("", "b")}},
		"an alias that is no name": {Elems: []api.Elem{elem("A", "b")}},
		"a long alias":             {Elems: []api.Elem{elem("ninebytes", "b")}},
		"an alias twice":           {Elems: []api.Elem{elem("a", "b"), elem("a", "c")}},
		"no types":                 {Elems: []api.Elem{elem("a")}},
		"four types":               {Elems: []api.Elem{elem("a", "b", "c", "d", "e")}},
		"a type that is no name":   {Elems: []api.Elem{elem("a", "b", "c|d")}},
		"a type of no bytes":       {Elems: []api.Elem{elem("a", "", "b")}},
		"a long type":              {Elems: []api.Elem{elem("a", "ninebytes")}},
		"types that don't rise":    {Elems: []api.Elem{elem("a", "c", "b")}},
		"a type twice":             {Elems: []api.Elem{elem("a", "b", "b")}},
		"the first one Not":        {Elems: []api.Elem{none(elem("a", "b")), elem("c", "d")}},
		"the last one Not":         {Elems: []api.Elem{elem("a", "b"), none(elem("c", "d"))}},
		"the only one Not":         {Elems: []api.Elem{none(elem("a", "b"))}},
		"two Nots side by side":    {Elems: []api.Elem{elem("a", "b"), none(elem("c", "d")), none(elem("e", "f")), elem("g", "h")}},
		"Plus and Not":             {Elems: []api.Elem{elem("a", "b"), some(none(elem("c", "d"))), elem("e", "f")}},
		"a window below 0":         {Elems: one, Within: -1},
		"a window one too large":   {Elems: one, Within: api.MaxWithin + 1},
		"the least window":         {Elems: one, Within: math.MinInt},
		"the greatest window":      {Elems: one, Within: math.MaxInt},
		"a field that is no name":  {Elems: one, By: "C"},
		"a long field":             {Elems: one, By: "ninebytes"},
		"a blank for a field":      {Elems: one, By: " "},
	} {
		if expr.Pattern(p) {
			t.Fatalf("a pattern: %s", why)
		}
		if got := Pattern(p); got != "" {
			t.Errorf("P8.1: Pattern with %s: %q", why, got)
		}
	}
}

func TestEmptyListsAreNone(t *testing.T) {
	bare := node(api.EAnd, lit(num(1)), node(api.ENot, field("a", "b")))
	spare := node(api.EAnd,
		api.Expr{Op: api.ELit, Val: num(1), Kids: []api.Expr{}},
		node(api.ENot, api.Expr{Op: api.EField, Alias: "a", Field: "b", Kids: []api.Expr{}}))
	if got := Expr(spare); got == "" || got != Expr(bare) {
		t.Errorf("P8.1: Expr with empty lists: %q, without any: %q", got, Expr(bare))
	}
	p := api.Pattern{Elems: []api.Elem{asks(elem("a", "b"), api.Expr{Kids: []api.Expr{}})}}
	if got := Pattern(p); got != "SEQ(a:b) WITHIN 0" {
		t.Errorf("P8.1: a Cond of no Op and an empty list is zero: %q", got)
	}
	if got := Pattern(api.Pattern{Elems: []api.Elem{}, Within: 5}); got != "" {
		t.Errorf("P8.1: Pattern of an empty list: %q", got)
	}
}

func TestWhatIsHandedInIsLeftAlone(t *testing.T) {
	types := []string{"b", "c", "spare"}
	kids := []api.Expr{field("a", "b"), lit(str(`"`)), lit(num(9))}
	elems := []api.Elem{asks(elem("a", types[:2]...), node(api.EEq, kids[:2]...)), elem("z", "z")}
	elems[0].Types = types[:2]
	elems[0].Cond.Kids = kids[:2]
	p := api.Pattern{Elems: elems[:1], Within: 3}
	want := `SEQ(a:b|c[(a.b = "\"")]) WITHIN 3`
	for range 2 {
		if got := Pattern(p); got != want {
			t.Errorf("P8.1: Pattern: %s, not %s", got, want)
		}
	}
	if !slices.Equal(types, []string{"b", "c", "spare"}) || !expr.Same(kids[2], lit(num(9))) ||
		!expr.Same(kids[1], lit(str(`"`))) || !expr.Same(kids[0], field("a", "b")) ||
		!expr.SamePattern(api.Pattern{Elems: elems[1:]}, api.Pattern{Elems: []api.Elem{elem("z", "z")}}) {
		t.Error("P8.1: what was handed in is changed")
	}
}

// TestWhateverIsHandedIn: calls come back from what has no end, too.
func TestWhateverIsHandedIn(t *testing.T) {
	round := node(api.EAdd, lit(num(1)), lit(num(2)))
	round.Kids[0], round.Kids[1] = round, round
	turn := node(api.ENot, lit(num(1)))
	turn.Kids[0] = turn
	wide := node(api.EAdd, slices.Repeat([]api.Expr{lit(num(1))}, 1<<16)...)
	for _, x := range []api.Expr{round, turn, wide, nested(1 << 15)} {
		if got := Expr(x); got != "" {
			t.Errorf("P8.1: Expr of what has no end: %.40q", got)
		}
		if got := Pattern(api.Pattern{Elems: []api.Elem{asks(elem("a", "b"), x)}}); got != "" {
			t.Errorf("P8.1: Pattern of what has no end: %.40q", got)
		}
	}
	many := api.Pattern{Elems: slices.Repeat([]api.Elem{elem("a", "b")}, 1<<16)}
	if got := Pattern(many); got != "" {
		t.Errorf("P8.1: Pattern of many elements: %.40q", got)
	}
}

func TestPiecesMayBeLeftAndGoneThroughAgain(t *testing.T) {
	p := api.Pattern{Elems: []api.Elem{
		asks(elem("a", "b", "c"), node(api.EEq, node(api.ENot, field("a", "b")), lit(str(`x"\`)))),
		none(elem("d", "e")),
		some(elem("f", "g")),
	}, Within: 12, By: "h", Any: true}
	walk, want := pattern(p), Pattern(p)
	if want == "" {
		t.Fatal("P8.1: no text")
	}
	for n := 1; ; n++ {
		got, count := "", 0
		for piece := range walk {
			for range walk {
				break
			}
			got += piece
			if count++; count == n {
				break
			}
		}
		if !strings.HasPrefix(want, got) {
			t.Errorf("P8.1: left behind %d pieces: %q", n, got)
		}
		if count < n {
			if got != want {
				t.Errorf("P8.1: all pieces: %q, not %q", got, want)
			}
			return
		}
	}
}
