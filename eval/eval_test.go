package eval

import (
	"errors"
	"math"
	"slices"
	"testing"

	"pastern/api"
	"pastern/event"
	"pastern/expr"
	"pastern/parse"
	"pastern/schema"
	"pastern/show"
)

func num(n int64) api.Value { return api.Value{Kind: api.Int, N: n} }

func text(s string) api.Value { return api.Value{Kind: api.Str, S: s} }

var yes, no = api.Value{Kind: api.Bool, N: 1}, api.Value{Kind: api.Bool}

// trades: buy and sell have names of fields in common, at other places and,
// but for price, of other Kinds; idle has no fields.
func trades() api.Schema {
	return api.Schema{Types: []api.Type{
		{Name: "buy", Fields: []api.Field{{Name: "price", Kind: api.Int}, {Name: "item", Kind: api.Str}, {Name: "firm", Kind: api.Bool}}},
		{Name: "idle"},
		{Name: "sell", Fields: []api.Field{{Name: "item", Kind: api.Bool}, {Name: "price", Kind: api.Int}, {Name: "to", Kind: api.Str}}},
	}}
}

func buy(price int64, item string, firm int64) api.Event {
	return api.Event{Type: "buy", Ts: 5, Vals: []api.Value{num(price), text(item), {Kind: api.Bool, N: firm}}}
}

func sell(item, price int64, to string) api.Event {
	return api.Event{Type: "sell", Ts: 5, Vals: []api.Value{{Kind: api.Bool, N: item}, num(price), text(to)}}
}

func bind(alias string, e api.Event) api.Bind { return api.Bind{Alias: alias, E: e} }

// market: b stands for three events, one behind the other with others between,
// c for a sell whose elder event is a buy, d for an idle one whose elder event
// is a buy; top and low bear the greatest and the least number.
func market() []api.Bind {
	return []api.Bind{
		bind("a", buy(7, "hay", 1)),
		bind("b", buy(1, "oats", 1)),
		bind("c", buy(4, "rye", 1)),
		bind("b", sell(0, 2, "x")),
		bind("d", buy(5, "rye", 1)),
		bind("c", sell(1, 8, "mill")),
		bind("b", buy(3, "", 0)),
		bind("d", api.Event{Type: "idle"}),
		bind("top", buy(math.MaxInt64, "~", 0)),
		bind("low", buy(math.MinInt64, " ", 0)),
	}
}

func lit(v api.Value) api.Expr { return api.Expr{Op: api.ELit, Val: v} }

func at(alias, field string) api.Expr {
	return api.Expr{Op: api.EField, Alias: alias, Field: field}
}

func node(op int, kids ...api.Expr) api.Expr { return api.Expr{Op: op, Kids: kids} }

// cond: the condition that a text tells.
func cond(t *testing.T, s string) api.Expr {
	t.Helper()
	x, err := parse.Expr(s)
	if err != nil {
		t.Fatalf("no condition: %s: %v", s, err)
	}
	return x
}

// errno: an error's number, 0 of none.
func errno(err error) api.Errno {
	var number api.Errno
	if err != nil && (!errors.As(err, &number) || !errors.Is(err, number)) {
		return -1
	}
	return number
}

// ask: of x that value, or that error and no value beside it; and Holds of what
// is true alone.
func ask(t *testing.T, l []api.Bind, x api.Expr, want api.Value, code api.Errno) {
	t.Helper()
	if v, err := Eval(trades(), x, l); v != want || errno(err) != code {
		t.Errorf("P11.1: Eval(%s) = %v, %v; not %v, %d", show.Expr(x), v, err, want, code)
	}
	if Holds(trades(), x, l) != (want == yes) {
		t.Errorf("P11.1: Holds(%s) = %v", show.Expr(x), want != yes)
	}
}

// told: each text's condition has that value among market.
func told(t *testing.T, table map[string]api.Value) {
	t.Helper()
	for s, want := range table {
		ask(t, market(), cond(t, s), want, 0)
	}
}

// refused: each text's condition has that error among market.
func refused(t *testing.T, table map[string]api.Errno) {
	t.Helper()
	for s, want := range table {
		ask(t, market(), cond(t, s), api.Value{}, want)
	}
}

func TestLiterals(t *testing.T) {
	table := map[string]api.Value{
		"0": num(0), "1": num(1), "-1": num(-1), "9223372036854775807": num(math.MaxInt64),
		`""`: text(""), `"hay"`: text("hay"), `"TRUE"`: text("TRUE"), `"1"`: text("1"),
		"TRUE": yes, "FALSE": no,
	}
	told(t, table)
	for s, want := range table {
		ask(t, nil, cond(t, s), want, 0)
	}
	ask(t, nil, lit(num(math.MinInt64)), num(math.MinInt64), 0)
}

func TestFields(t *testing.T) {
	told(t, map[string]api.Value{
		"a.price": num(7), "a.item": text("hay"), "a.firm": yes,
		"b.price": num(3), "b.item": text(""), "b.firm": no,
		"c.item": yes, "c.price": num(8), "c.to": text("mill"),
		"top.price": num(math.MaxInt64), "low.price": num(math.MinInt64),
	})
}

func TestFieldsOfTheLastOne(t *testing.T) {
	l := []api.Bind{bind("a", buy(1, "x", 0))}
	for n := int64(2); n < 40; n++ {
		l = append(l, bind("a", buy(n, "x", 0)), bind("b", buy(-n, "y", 0)))
		ask(t, l, at("a", "price"), num(n), 0)
		ask(t, l, at("b", "price"), num(-n), 0)
		ask(t, l[:len(l)-2], at("a", "price"), num(n-1), 0)
	}
}

func TestFieldsOfNone(t *testing.T) {
	refused(t, map[string]api.Errno{
		"z.price": api.ErrName, "aa.price": api.ErrName, "buy.price": api.ErrName, "price.a": api.ErrName,
		"a.to": api.ErrName, "a.pric": api.ErrName, "a.prices": api.ErrName, "a.buy": api.ErrName, "a.a": api.ErrName,
		// Elder events that have the field don't count.
		"b.to": api.ErrName, "c.firm": api.ErrName, "d.price": api.ErrName,
	})
	for _, l := range [][]api.Bind{
		nil,
		{bind("", buy(1, "x", 0))},
		{bind("b", buy(1, "x", 0))},
		{bind("A", buy(1, "x", 0))},
		{bind("a", api.Event{Type: "idle"})},
		{bind("a", api.Event{Type: "zz"})},
		{bind("a", buy(1, "x", 0)), bind("a", api.Event{Type: "zz"})},
		{bind("a", buy(1, "x", 0)), bind("a", api.Event{})},
	} {
		ask(t, l, at("a", "price"), api.Value{}, api.ErrName)
	}
	if v, err := Eval(api.Schema{}, at("a", "price"), market()); v != (api.Value{}) || errno(err) != api.ErrName {
		t.Errorf("P11.1: a field without a schema: %v, %v", v, err)
	}
}

func TestAndOr(t *testing.T) {
	told(t, map[string]api.Value{
		"(FALSE AND FALSE)": no, "(FALSE AND TRUE)": no, "(TRUE AND FALSE)": no, "(TRUE AND TRUE)": yes,
		"(FALSE OR FALSE)": no, "(FALSE OR TRUE)": yes, "(TRUE OR FALSE)": yes, "(TRUE OR TRUE)": yes,
		"(a.firm AND b.firm)": no, "(a.firm AND c.item)": yes, "(b.firm OR a.firm)": yes, "(b.firm OR top.firm)": no,
		"((a.price = 7) AND (b.price = 3))": yes, "((a.price = 8) OR (b.price < 3))": no,
		"((TRUE AND TRUE) AND (FALSE OR TRUE))": yes, "((TRUE AND FALSE) OR (TRUE AND TRUE))": yes,
	})
}

// TestAndOrOfTheFirst: what the first kid decides, no fault of the second one
// undoes.
func TestAndOrOfTheFirst(t *testing.T) {
	for _, second := range []string{"z.price", "a.to", "1", `"x"`, "(1 + TRUE)", "(1 = TRUE)", "(NOT 1)", "(9223372036854775807 + 1)", "(1 AND TRUE)", "((top.price * 2) < 1)"} {
		told(t, map[string]api.Value{
			"(FALSE AND " + second + ")":             no,
			"(TRUE OR " + second + ")":               yes,
			"(b.firm AND " + second + ")":            no,
			"(a.firm OR " + second + ")":             yes,
			"((1 = 2) AND " + second + ")":           no,
			"((1 = 1) OR " + second + ")":            yes,
			"((FALSE AND " + second + ") AND z.z)":   no,
			"(TRUE AND (TRUE OR " + second + "))":    yes,
			"(NOT (FALSE AND " + second + "))":       yes,
			"((TRUE OR " + second + ") = TRUE)":      yes,
			"((FALSE AND " + second + ") OR c.item)": yes,
		})
	}
}

func TestAndOrOfWrongKids(t *testing.T) {
	kids := map[string]api.Errno{
		"1": api.ErrKind, "0": api.ErrKind, `"x"`: api.ErrKind, `""`: api.ErrKind, "a.price": api.ErrKind, "a.item": api.ErrKind, "(1 + 1)": api.ErrKind,
		"(1 + TRUE)": api.ErrKind, "(TRUE < FALSE)": api.ErrKind,
		"z.firm": api.ErrName, "a.to": api.ErrName, "(z.price < 1)": api.ErrName,
		"(top.price + 1)": api.ErrOver, "((low.price - 1) = 1)": api.ErrOver,
	}
	for kid, want := range kids {
		refused(t, map[string]api.Errno{
			"(" + kid + " AND TRUE)": want, "(" + kid + " AND FALSE)": want,
			"(" + kid + " OR TRUE)": want, "(" + kid + " OR FALSE)": want,
			"(TRUE AND " + kid + ")": want, "(FALSE OR " + kid + ")": want,
			"(a.firm AND " + kid + ")": want, "(b.firm OR " + kid + ")": want,
		})
		for other := range kids {
			refused(t, map[string]api.Errno{"(" + kid + " AND " + other + ")": want, "(" + kid + " OR " + other + ")": want})
		}
	}
}

func TestNumbers(t *testing.T) {
	told(t, map[string]api.Value{
		"(1 + 1)": num(2), "(a.price + b.price)": num(10), "(7 + -7)": num(0), "(-3 + -4)": num(-7),
		"(1 - 1)": num(0), "(b.price - a.price)": num(-4), "(-3 - -4)": num(1), "(0 - 5)": num(-5),
		"(a.price * b.price)": num(21), "(a.price * -3)": num(-21), "(-3 * -4)": num(12), "(0 * a.price)": num(0), "(a.price * 0)": num(0),
		"((1 + 2) * (3 - 5))": num(-6), "(((2 * 3) - 1) + a.price)": num(12),
		"((1 + 1) = 2)": yes, "((1 - 1) = 2)": no,
	})
}

func TestNumbersAtTheEdge(t *testing.T) {
	told(t, map[string]api.Value{
		"(top.price + 0)": num(math.MaxInt64), "(0 + low.price)": num(math.MinInt64), "(top.price + low.price)": num(-1), "(low.price + top.price)": num(-1),
		"(top.price + -1)": num(math.MaxInt64 - 1), "(low.price + 1)": num(math.MinInt64 + 1), "(9223372036854775806 + 1)": num(math.MaxInt64), "(-9223372036854775807 + -1)": num(math.MinInt64),
		"(top.price - 0)": num(math.MaxInt64), "(low.price - 0)": num(math.MinInt64), "(top.price - top.price)": num(0), "(low.price - low.price)": num(0),
		"(-1 - top.price)": num(math.MinInt64), "(-1 - low.price)": num(math.MaxInt64), "(0 - top.price)": num(-math.MaxInt64), "(9223372036854775806 - -1)": num(math.MaxInt64),
		"(top.price * 1)": num(math.MaxInt64), "(top.price * -1)": num(-math.MaxInt64), "(-1 * top.price)": num(-math.MaxInt64), "(low.price * 1)": num(math.MinInt64), "(1 * low.price)": num(math.MinInt64), "(low.price * 0)": num(0), "(0 * low.price)": num(0),
		"(4294967296 * -2147483648)": num(math.MinInt64), "(3037000499 * 3037000499)": num(3037000499 * 3037000499), "(-4611686018427387904 * 2)": num(math.MinInt64), "(4611686018427387903 * 2)": num(math.MaxInt64 - 1),
	})
	refused(t, map[string]api.Errno{
		"(top.price + 1)": api.ErrOver, "(1 + top.price)": api.ErrOver, "(top.price + top.price)": api.ErrOver, "(low.price + -1)": api.ErrOver, "(-1 + low.price)": api.ErrOver, "(low.price + low.price)": api.ErrOver,
		"(top.price - -1)": api.ErrOver, "(low.price - 1)": api.ErrOver, "(0 - low.price)": api.ErrOver, "(1 - low.price)": api.ErrOver, "(-2 - top.price)": api.ErrOver, "(top.price - low.price)": api.ErrOver, "(low.price - top.price)": api.ErrOver,
		"(low.price * -1)": api.ErrOver, "(-1 * low.price)": api.ErrOver, "(top.price * 2)": api.ErrOver, "(2 * top.price)": api.ErrOver, "(low.price * 2)": api.ErrOver, "(top.price * -2)": api.ErrOver, "(low.price * low.price)": api.ErrOver, "(top.price * top.price)": api.ErrOver, "(top.price * low.price)": api.ErrOver, "(low.price * top.price)": api.ErrOver,
		"(4294967296 * 2147483648)": api.ErrOver, "(4294967296 * 4294967296)": api.ErrOver, "(3037000500 * 3037000500)": api.ErrOver, "(-3037000500 * 3037000500)": api.ErrOver, "(4611686018427387904 * 2)": api.ErrOver, "(-4611686018427387905 * 2)": api.ErrOver,
		// What is too great on the way is too great, whatever becomes of it.
		"((top.price + 1) - 1)": api.ErrOver, "(0 * (top.price + 1))": api.ErrOver, "((top.price * 2) = (top.price * 2))": api.ErrOver,
	})
}

func TestEqual(t *testing.T) {
	told(t, map[string]api.Value{
		"(1 = 1)": yes, "(1 = 2)": no, "(1 != 1)": no, "(1 != 2)": yes, "(1 = -1)": no, "(0 != 0)": no,
		`("" = "")`: yes, `("a" = "a")`: yes, `("a" = "b")`: no, `("a" = "A")`: no, `("a" = "a ")`: no, `("a" != "")`: yes, `("a" != "a")`: no,
		"(TRUE = TRUE)": yes, "(FALSE = FALSE)": yes, "(TRUE = FALSE)": no, "(FALSE = TRUE)": no, "(TRUE != TRUE)": no, "(TRUE != FALSE)": yes, "(FALSE != FALSE)": no,
		"(a.price = 7)": yes, "(a.price != b.price)": yes, `(a.item = "hay")`: yes, "(a.firm = b.firm)": no, `(b.item = "")`: yes, "(top.price = low.price)": no,
		"((1 < 2) = (3 < 4))": yes, "((1 < 2) != (4 < 3))": yes,
	})
	refused(t, map[string]api.Errno{
		`("1" = 1)`: api.ErrKind, `(1 = "1")`: api.ErrKind, "(1 = TRUE)": api.ErrKind, "(FALSE = 0)": api.ErrKind, `("" = FALSE)`: api.ErrKind, `("" = 0)`: api.ErrKind,
		`("1" != 1)`: api.ErrKind, `(1 != "")`: api.ErrKind, "(0 != TRUE)": api.ErrKind, "(FALSE != 0)": api.ErrKind, `(TRUE != "TRUE")`: api.ErrKind,
		"(a.price = a.item)": api.ErrKind, "(a.item = c.item)": api.ErrKind,
	})
}

func TestLess(t *testing.T) {
	told(t, map[string]api.Value{
		"(1 < 2)": yes, "(2 < 1)": no, "(1 < 1)": no, "(1 <= 2)": yes, "(2 <= 1)": no, "(1 <= 1)": yes,
		"(-1 < 0)": yes, "(0 < -1)": no, "(-2 < -1)": yes, "(10 < 9)": no,
		"(low.price < top.price)": yes, "(top.price < low.price)": no, "(top.price <= low.price)": no, "(low.price <= low.price)": yes, "(top.price < top.price)": no,
		`("a" < "b")`: yes, `("b" < "a")`: no, `("a" < "a")`: no, `("a" <= "a")`: yes, `("a" <= "b")`: yes, `("b" <= "a")`: no,
		`("" < " ")`: yes, `("" < "")`: no, `("" <= "")`: yes, `(" " < "")`: no,
		`("Z" < "a")`: yes, `("a" < "Z")`: no, `("a" <= "A")`: no, `("10" < "9")`: yes, `("9" < "10")`: no, `("a" < "aa")`: yes, `("aa" < "b")`: yes, `("ab" < "aa")`: no, `("b" < "aaaaaaaaaaaaaaaa")`: no, `("~" < "z")`: no,
		"(a.item < low.item)": no, "(low.item < a.item)": yes, "(b.item <= a.item)": yes, "(b.price < a.price)": yes,
	})
	refused(t, map[string]api.Errno{
		"(TRUE < FALSE)": api.ErrKind, "(FALSE < TRUE)": api.ErrKind, "(TRUE <= TRUE)": api.ErrKind, "(a.firm <= b.firm)": api.ErrKind,
		`(1 < "2")`: api.ErrKind, `("1" < 2)`: api.ErrKind, "(0 < TRUE)": api.ErrKind, "(FALSE <= 1)": api.ErrKind, `("" < TRUE)`: api.ErrKind, `(TRUE <= "x")`: api.ErrKind, "(a.price < a.item)": api.ErrKind,
	})
}

func TestNot(t *testing.T) {
	told(t, map[string]api.Value{
		"(NOT TRUE)": no, "(NOT FALSE)": yes, "(NOT a.firm)": no, "(NOT b.firm)": yes, "(NOT (NOT TRUE))": yes, "(NOT (1 = 2))": yes,
	})
	refused(t, map[string]api.Errno{
		"(NOT 1)": api.ErrKind, "(NOT 0)": api.ErrKind, `(NOT "")`: api.ErrKind, "(NOT a.item)": api.ErrKind, "(NOT (1 + 1))": api.ErrKind,
		"(NOT z.firm)": api.ErrName, "(NOT (top.price + 1))": api.ErrOver, "(NOT (NOT 1))": api.ErrKind,
	})
}

func TestNumbersOfOtherKinds(t *testing.T) {
	for _, sign := range []string{" + ", " - ", " * "} {
		for _, other := range []string{`"1"`, `""`, "TRUE", "FALSE", "a.item", "a.firm", "(1 = 1)"} {
			refused(t, map[string]api.Errno{
				"(1" + sign + other + ")":         api.ErrKind,
				"(" + other + sign + "1)":         api.ErrKind,
				"(" + other + sign + other + ")":  api.ErrKind,
				"(0" + sign + other + ")":         api.ErrKind,
				"(top.price" + sign + other + ")": api.ErrKind,
				"(" + other + sign + "low.price)": api.ErrKind,
			})
		}
	}
}

// TestTheFirstErrorCounts: of two kids that both err, the left one's; a kid's
// own ahead of what the two are to one another.
func TestTheFirstErrorCounts(t *testing.T) {
	kids := map[string]api.Errno{"z.price": api.ErrName, "a.to": api.ErrName, "(top.price + 1)": api.ErrOver, "(1 + TRUE)": api.ErrKind, "(NOT 1)": api.ErrKind}
	for _, sign := range []string{" + ", " - ", " * ", " = ", " != ", " < ", " <= "} {
		for left, want := range kids {
			for right := range kids {
				refused(t, map[string]api.Errno{"(" + left + sign + right + ")": want})
			}
			for _, sound := range []string{"1", `"x"`, "TRUE"} {
				refused(t, map[string]api.Errno{"(" + left + sign + sound + ")": want, "(" + sound + sign + left + ")": want})
			}
		}
	}
	refused(t, map[string]api.Errno{
		"((z.price + (top.price + 1)) = (1 + TRUE))": api.ErrName, "(((top.price + 1) + z.price) = (1 + TRUE))": api.ErrOver, "((1 < TRUE) = z.price)": api.ErrKind,
		"(((top.price * 2) < z.price) AND FALSE)": api.ErrOver, "((TRUE AND z.firm) OR TRUE)": api.ErrName, "(NOT (TRUE AND (1 - a.item)))": api.ErrKind,
	})
}

// TestNoConditions: what isn't expr's Is is ErrForm, wherever in it the fault
// is, and ahead of all else.
func TestNoConditions(t *testing.T) {
	bad := []api.Expr{
		{},
		{Op: -1},
		{Op: api.ENot + 1},
		{Op: api.ELit},
		{Op: math.MinInt},
		{Kids: []api.Expr{lit(yes)}},
		{Op: api.ELit, Val: api.Value{Kind: api.Bool, N: 2}},
		{Op: api.ELit, Val: api.Value{Kind: 4}},
		{Op: api.ELit, Val: yes, Alias: "a"},
		{Op: api.ELit, Val: yes, Kids: []api.Expr{lit(yes)}},
		{Op: api.EField},
		at("", "price"),
		at("a", ""),
		at("A", "price"),
		at("a", "Price"),
		at("aaaaaaaaa", "price"),
		{Op: api.EField, Alias: "a", Field: "price", Val: num(1)},
		node(api.ENot),
		node(api.ENot, lit(yes), lit(yes)),
		node(api.EAnd),
		node(api.EAnd, lit(no)),
		node(api.EOr, lit(yes), lit(yes), lit(yes)),
		node(api.EAdd, lit(num(1))),
		node(api.EEq, lit(num(1)), lit(num(1)), lit(num(1))),
		{Op: api.ENot, Val: yes, Kids: []api.Expr{lit(yes)}},
		lit(text("0123456789abcdefg")),
		lit(text("\x7f")),
	}
	for _, x := range bad {
		ill := func(x api.Expr) {
			t.Helper()
			if v, err := Eval(trades(), x, market()); v != (api.Value{}) || errno(err) != api.ErrForm {
				t.Errorf("P11.1: Eval(%v) = %v, %v", x, v, err)
			}
		}
		ill(x)
		ill(node(api.ENot, x))
		ill(node(api.EAnd, lit(no), x))
		ill(node(api.EOr, lit(yes), x))
		ill(node(api.EAdd, at("z", "price"), x))
		ill(node(api.EEq, node(api.EAdd, lit(num(1)), lit(yes)), x))
		ill(node(api.EAnd, node(api.ENot, lit(num(1))), x))
	}
}

func TestDeepConditions(t *testing.T) {
	x, want := lit(yes), yes
	for depth := 1; depth < 40; depth++ {
		if depth <= api.MaxDepth {
			ask(t, nil, x, want, 0)
		} else {
			ask(t, nil, x, api.Value{}, api.ErrForm)
		}
		x = node(api.ENot, x)
		want.N = 1 - want.N
	}
	ring := []api.Expr{{Op: api.ENot}}
	ring[0].Kids = ring
	if _, err := Eval(trades(), ring[0], nil); errno(err) != api.ErrForm || Holds(trades(), ring[0], nil) {
		t.Errorf("P11.1: a condition without an end: %v", err)
	}
}

// ands: a tree of so many leaves, no deeper than it must be.
func ands(leaves int) api.Expr {
	if leaves == 1 {
		return at("a", "firm")
	}
	return node(api.EAnd, ands(leaves/2), ands(leaves-leaves/2))
}

// TestGreatConditions: at MaxNodes, and one past it.
func TestGreatConditions(t *testing.T) {
	not := node(api.ENot, at("b", "firm"))
	most := node(api.EAnd, ands(8), ands(4))
	ask(t, market(), most, yes, 0)
	most.Kids[1].Kids[0].Kids[0] = not
	if n := len(expr.Nodes(most)); n != api.MaxNodes {
		t.Fatalf("not a fair test: %d nodes", n)
	}
	ask(t, market(), most, yes, 0)
	most.Kids[1].Kids[0].Kids[1] = not
	ask(t, market(), most, api.Value{}, api.ErrForm)
}

func TestTheSameWhoeverAsks(t *testing.T) {
	s, l, x := trades(), market(), cond(t, "((a.price + b.price) = (c.price + 2))")
	vals := append([]api.Value{num(7), text("hay"), yes}, num(99))[:3]
	l[0].E.Vals = vals
	l = append(l, bind("a", buy(100, "room", 0)))[:len(l)]
	for range 3 {
		if v, err := Eval(s, x, l); v != yes || err != nil || !Holds(s, x, l) {
			t.Errorf("P11.1: asked again: %v, %v", v, err)
		}
	}
	if !schema.Same(s, trades()) || !expr.Same(x, cond(t, "((a.price + b.price) = (c.price + 2))")) {
		t.Errorf("P11.1: a call changed its schema or its condition: %v, %v", s, x)
	}
	same := func(a, b api.Bind) bool { return a.Alias == b.Alias && event.Same(a.E, b.E) }
	if !slices.EqualFunc(l, market(), same) || vals[:4][3] != num(99) || l[:len(l)+1][len(l)].E.Vals[0] != num(100) {
		t.Errorf("P11.1: a call changed its events: %v", l)
	}
}

// TestWhateverIsAsked: also of what nothing is promised of, an answer comes.
func TestWhateverIsAsked(t *testing.T) {
	odd := api.Schema{Types: []api.Type{
		{Name: "z", Fields: []api.Field{{Name: "x", Kind: 9}, {Name: "x", Kind: api.Int}}},
		{Name: ""},
		{Name: "a", Fields: []api.Field{{Name: "x"}, {Name: "y", Kind: api.Bool}}},
		{Name: "z"},
	}}
	l := []api.Bind{
		bind("a", api.Event{Type: "z", Ts: -1, Vals: []api.Value{{Kind: 9, N: 9, S: "\xff"}}}),
		bind("b", api.Event{Type: "a", Vals: []api.Value{{}, {Kind: api.Bool, N: 7, S: "x"}, num(1)}}),
		bind("c", api.Event{Type: "z"}),
		bind("", api.Event{}),
		bind("\xff", api.Event{Type: "\xff"}),
	}
	for _, s := range []api.Schema{odd, {}, trades()} {
		for op := api.EAdd; op <= api.ENot; op++ {
			for _, alias := range []string{"a", "b", "c", "d"} {
				for _, field := range []string{"x", "y"} {
					kids := []api.Expr{at(alias, field), at("b", "y"), at("b", "x")}
					for i := range kids[1:] {
						x := node(op, kids[i:][:expr.Kids(op)]...)
						v, err := Eval(s, x, l)
						if err != nil && v != (api.Value{}) {
							t.Errorf("P11.1: a value beside an error: Eval(%s) = %v, %v", show.Expr(x), v, err)
						}
						Holds(s, x, l)
					}
				}
			}
		}
	}
}

func TestValuesMayBeLeftAndGoneThroughAgain(t *testing.T) {
	type row struct {
		v   api.Value
		err api.Errno
	}
	want := []row{{num(7), 0}, {api.Value{}, api.ErrName}, {yes, 0}, {api.Value{}, api.ErrOver}, {text("x"), 0}}
	walk := scope{trades(), market()}.values([]api.Expr{at("a", "price"), at("z", "x"), lit(yes), cond(t, "(top.price + 1)"), lit(text("x"))})
	for n := range len(want) + 1 {
		var got []row
		for v, err := range walk {
			if len(got) == n {
				break
			}
			got = append(got, row{v, errno(err)})
			for range walk {
				break
			}
		}
		if !slices.Equal(got, want[:n]) {
			t.Errorf("P11.1: left behind %d: %v", n, got)
		}
	}
}
