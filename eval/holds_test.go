package eval

import (
	"math"
	"math/big"
	"math/rand/v2"
	"strings"
	"testing"

	"pastern/api"
	"pastern/check"
	"pastern/expr"
	"pastern/show"
)

func TestHolds(t *testing.T) {
	for s, want := range map[string]bool{
		"TRUE": true, "FALSE": false, "((1 + 1) = 2)": true, "((1 + 1) = 3)": false,
		"a.firm": true, "b.firm": false, "c.item": true, "(a.price < c.price)": true, "(c.price < a.price)": false,
		// What is no Bool isn't true, whatever it is.
		"1": false, "0": false, `"TRUE"`: false, `""`: false, "a.price": false, "(0 + 1)": false,
		// Nor is what errs, and none of it is false either.
		"z.firm": false, "(NOT z.firm)": false, "(NOT 1)": false, "(1 = TRUE)": false, "(1 != TRUE)": false, "(top.price < (top.price + 1))": false, "(NOT (top.price < (top.price + 1)))": false,
		"(TRUE OR z.firm)": true, "(z.firm OR TRUE)": false,
	} {
		if Holds(trades(), cond(t, s), market()) != want {
			t.Errorf("P11.1: Holds(%s) = %v", s, !want)
		}
	}
}

func TestHoldsOfNoCondition(t *testing.T) {
	for _, x := range []api.Expr{{}, {Kids: []api.Expr{}}, {Kids: []api.Expr{lit(no)}[:0]}} {
		for _, l := range [][]api.Bind{nil, market()} {
			if !Holds(trades(), x, l) || !Holds(api.Schema{}, x, l) {
				t.Errorf("P11.1: Holds of a zero condition: %#v", x)
			}
			if v, err := Eval(trades(), x, l); v != (api.Value{}) || errno(err) != api.ErrForm {
				t.Errorf("P11.1: Eval of a zero condition: %v, %v", v, err)
			}
		}
	}
	for _, x := range []api.Expr{
		{Val: yes}, {Alias: "a"}, {Field: "firm"}, {Kids: []api.Expr{lit(yes)}}, {Kids: make([]api.Expr, 1)},
		{Op: -1}, {Op: api.ENot + 1}, {Op: api.ELit}, node(api.ENot, api.Expr{}), node(api.EAnd, lit(yes), api.Expr{}), node(api.EOr, lit(yes), api.Expr{}),
	} {
		if Holds(trades(), x, market()) {
			t.Errorf("P11.1: Holds of what is neither zero nor a condition: %#v", x)
		}
	}
}

// A maker draws conditions and events: the same ones each time.
type maker struct{ *rand.Rand }

func pick[T any](m maker, l ...T) T { return l[m.IntN(len(l))] }

func (m maker) number() int64 {
	return pick(m, 0, 1, -1, 2, 3, -7, math.MaxInt64, math.MaxInt64-1, math.MinInt64, math.MinInt64+1, 1<<31, -1<<32, 3037000500, m.Int64N(10), int64(m.Uint64()))
}

func (m maker) text() string { return pick(m, "", " ", "a", "A", "aa", "b", "hay", "10", "9") }

func (m maker) value(kind int) api.Value {
	switch kind {
	case api.Int:
		return num(m.number())
	case api.Str:
		return text(m.text())
	}
	return pick(m, yes, no)
}

func (m maker) event() api.Event {
	switch m.IntN(8) {
	case 0:
		return api.Event{Type: "idle"}
	case 1, 2:
		return sell(m.Int64N(2), m.number(), m.text())
	}
	return buy(m.number(), m.text(), m.Int64N(2))
}

// bound: events for aliases, some of them for none that a condition names.
func (m maker) bound() []api.Bind {
	var l []api.Bind
	for range m.IntN(8) {
		l = append(l, bind(pick(m, "a", "b", "c", "d"), m.event()))
	}
	return append(l, bind("a", buy(m.number(), m.text(), m.Int64N(2))))
}

func (m maker) leaf(kind int) api.Expr {
	alias := pick(m, "a", "a", "a", "b", "c")
	switch {
	case m.IntN(2) == 0:
		return lit(m.value(kind))
	case kind == api.Int:
		return at(alias, "price")
	case kind == api.Str:
		return at(alias, pick(m, "item", "item", "to"))
	}
	return at(alias, pick(m, "firm", "firm", "item"))
}

// cond: of that Kind, if nothing slips.
func (m maker) cond(kind, depth int) api.Expr {
	if m.IntN(60) == 0 {
		kind = pick(m, api.Int, api.Str, api.Bool)
	}
	two := func(kind int, ops ...int) api.Expr {
		return node(pick(m, ops...), m.cond(kind, depth-1), m.cond(kind, depth-1))
	}
	switch {
	case depth == 1 || kind == api.Str || m.IntN(5) == 0:
		return m.leaf(kind)
	case kind == api.Int:
		return two(api.Int, api.EAdd, api.ESub, api.EMul)
	}
	switch m.IntN(4) {
	case 0:
		return node(api.ENot, m.cond(api.Bool, depth-1))
	case 1:
		return two(api.Bool, api.EAnd, api.EOr)
	case 2:
		return two(pick(m, api.Int, api.Str), api.ELt, api.ELe)
	}
	return two(pick(m, api.Int, api.Str, api.Bool), api.EEq, api.ENe)
}

// draw: a condition that may be, and is less deep than it may be.
func (m maker) draw() api.Expr {
	for {
		x := m.cond(pick(m, api.Int, api.Bool, api.Bool), 1+m.IntN(api.MaxDepth-1))
		if expr.Is(node(api.ENot, x)) {
			return x
		}
	}
}

// thing: a *big.Int, a string, a bool, or an api.Errno in place of one.
type thing any

func thingOf(v api.Value) thing {
	switch v.Kind {
	case api.Int:
		return big.NewInt(v.N)
	case api.Str:
		return v.S
	}
	return v.N == 1
}

func valueOf(x thing) (api.Value, api.Errno) {
	switch x := x.(type) {
	case *big.Int:
		return num(x.Int64()), 0
	case string:
		return text(x), 0
	case bool:
		if x {
			return yes, 0
		}
		return no, 0
	}
	return api.Value{}, x.(api.Errno)
}

// places: where each field of a type stands.
var places = map[string]map[string]int{"buy": {"price": 0, "item": 1, "firm": 2}, "sell": {"item": 0, "price": 1, "to": 2}}

// tell: what a condition tells, by the chapter's words, with numbers of any
// size: each node is put down by what its things are, not by their Kinds.
func tell(x api.Expr, bound map[string]api.Event) thing {
	switch x.Op {
	case api.ELit:
		return thingOf(x.Val)
	case api.EField:
		e := bound[x.Alias]
		if i, has := places[e.Type][x.Field]; has {
			return thingOf(e.Vals[i])
		}
		return api.ErrName
	}
	first := tell(x.Kids[0], bound)
	if _, errs := first.(api.Errno); errs {
		return first
	}
	truth, isBool := first.(bool)
	if x.Op == api.EAnd || x.Op == api.EOr || x.Op == api.ENot {
		switch {
		case !isBool:
			return api.ErrKind
		case x.Op == api.ENot:
			return !truth
		case truth == (x.Op == api.EOr):
			return truth
		}
	}
	second := tell(x.Kids[1], bound)
	if _, errs := second.(api.Errno); errs {
		return second
	}
	return both(x.Op, first, second)
}

func both(op int, first, second thing) thing {
	switch a := first.(type) {
	case *big.Int:
		if b, is := second.(*big.Int); is {
			return numbers(op, a, b)
		}
	case string:
		if b, is := second.(string); is && op >= api.EEq && op <= api.ELe {
			return ordered(op, strings.Compare(a, b))
		}
	case bool:
		if b, is := second.(bool); is {
			switch op {
			case api.EAnd, api.EOr:
				return b
			case api.EEq, api.ENe:
				return (a == b) == (op == api.EEq)
			}
		}
	}
	return api.ErrKind
}

func ordered(op, order int) thing {
	switch op {
	case api.EEq:
		return order == 0
	case api.ENe:
		return order != 0
	case api.ELt:
		return order < 0
	}
	return order <= 0
}

func numbers(op int, a, b *big.Int) thing {
	c := new(big.Int)
	switch op {
	case api.EAdd:
		c.Add(a, b)
	case api.ESub:
		c.Sub(a, b)
	case api.EMul:
		c.Mul(a, b)
	case api.EEq, api.ENe, api.ELt, api.ELe:
		return ordered(op, a.Cmp(b))
	default:
		return api.ErrKind
	}
	if !c.IsInt64() {
		return api.ErrOver
	}
	return c
}

// TestWhatAConditionTells: of many conditions and events, value or error, by a
// reading of the chapter that has nothing in common with Eval.
func TestWhatAConditionTells(t *testing.T) {
	m := maker{rand.New(rand.NewPCG(11, 1))}
	seen := map[api.Errno]int{}
	for range 60000 {
		x, l, last := m.draw(), m.bound(), map[string]api.Event{}
		for _, b := range l {
			last[b.Alias] = b.E
		}
		want, code := valueOf(tell(x, last))
		ask(t, l, x, want, code)
		seen[code]++
		if t.Failed() {
			t.Fatalf("of %v", l)
		}
	}
	if seen[0] < 20000 || seen[api.ErrName] < 1000 || seen[api.ErrKind] < 1000 || seen[api.ErrOver] < 1000 {
		t.Errorf("not a fair test: %v", seen)
	}
}

// TestNumbersOfAnySize: each Op of numbers, by numbers that have no limits.
func TestNumbersOfAnySize(t *testing.T) {
	m := maker{rand.New(rand.NewPCG(11, 2))}
	edges := []int64{0, 1, -1, 2, -2, math.MaxInt64, math.MaxInt64 - 1, math.MinInt64, math.MinInt64 + 1, 1 << 31, -1 << 31, 1 << 32, 1 << 62, -1 << 62, 3037000499, 3037000500}
	for range 300 {
		edges = append(edges, int64(m.Uint64())>>m.IntN(64))
	}
	for _, a := range edges {
		for _, b := range edges {
			for op := api.EAdd; op <= api.ELe; op++ {
				want, code := valueOf(numbers(op, big.NewInt(a), big.NewInt(b)))
				if v, err := Eval(api.Schema{}, node(op, lit(num(a)), lit(num(b))), nil); v != want || errno(err) != code {
					t.Fatalf("P11.1: Op %d of %d and %d: %v, %v; not %v, %d", op, a, b, v, err, want, code)
				}
			}
		}
	}
}

// TestTrueOrNot: a condition that can be told of its events is true, or not: of
// it and of its NOT one holds, unless a number grows too great. And its value is
// of the Kind that it has.
func TestTrueOrNot(t *testing.T) {
	m := maker{rand.New(rand.NewPCG(11, 3))}
	told, over := 0, 0
	for range 60000 {
		x, l := m.draw(), m.bound()
		last := map[string]string{}
		for _, b := range l {
			last[b.Alias] = b.E.Type
		}
		var named []api.Elem
		for _, alias := range []string{"a", "b", "c", "d"} {
			if last[alias] != "" {
				named = append(named, api.Elem{Alias: alias, Types: []string{last[alias]}})
			}
		}
		kind, err := check.Kind(trades(), named, x)
		if err != nil {
			continue
		}
		v, err := Eval(trades(), x, l)
		if errno(err) == api.ErrOver {
			over++
		} else if err != nil || v.Kind != kind {
			t.Fatalf("P11.2: %s is of Kind %d, but of %v it is %v, %v", show.Expr(x), kind, l, v, err)
		}
		if kind != api.Bool {
			continue
		}
		told++
		one := Holds(trades(), x, l) != Holds(trades(), node(api.ENot, x), l)
		if one != (err == nil) {
			t.Fatalf("P11.2: of %s and its NOT, %v: one holds: %v", show.Expr(x), l, one)
		}
	}
	if told < 20000 || over < 1000 {
		t.Errorf("not a fair test: %d told, %d too great", told, over)
	}
}
