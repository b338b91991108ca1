package show

import (
	"regexp"
	"slices"
	"strconv"
	"strings"
	"testing"

	"pastern/api"
	"pastern/expr"
	"pastern/value"
)

// A reader goes the other way, by the words of the chapter alone: what it gets
// out of a text is the only thing that may have that text.
type reader struct {
	t    *testing.T
	rest string
}

func (r *reader) eat(s string) bool {
	rest, ok := strings.CutPrefix(r.rest, s)
	r.rest = rest
	return ok
}

func (r *reader) must(s string) {
	r.t.Helper()
	if !r.eat(s) {
		r.t.Fatalf("P8.2: no %q ahead of %q", s, r.rest)
	}
}

var (
	nameHead = regexp.MustCompile(`^[a-z]{1,8}`)
	numHead  = regexp.MustCompile(`^-?[0-9]+`)
	textHead = regexp.MustCompile(`^"((?:[ !#-\[\]-~]|\\["\\])*)"`)
	signHead = regexp.MustCompile(`^ (\+|-|\*|=|!=|<|<=|AND|OR) `)
)

// take: what the expression finds at the head; "" of nothing.
func (r *reader) take(head *regexp.Regexp) string {
	s := head.FindString(r.rest)
	r.rest = r.rest[len(s):]
	return s
}

func (r *reader) value() (api.Value, bool) {
	switch {
	case r.eat("TRUE"):
		return boolean(1), true
	case r.eat("FALSE"):
		return boolean(0), true
	}
	if s := r.take(textHead); s != "" {
		return str(strings.NewReplacer(`\"`, `"`, `\\`, `\`).Replace(s[1 : len(s)-1])), true
	}
	if s := r.take(numHead); s != "" {
		n, err := strconv.ParseInt(s, 10, 64)
		if err != nil || strconv.FormatInt(n, 10) != s {
			r.t.Fatalf("P8.2: the number %q", s)
		}
		return num(n), true
	}
	return api.Value{}, false
}

func (r *reader) condition() api.Expr {
	if v, ok := r.value(); ok {
		return lit(v)
	}
	if !r.eat("(") {
		alias := r.take(nameHead)
		r.must(".")
		return field(alias, r.take(nameHead))
	}
	x := api.Expr{}
	if r.eat("NOT ") {
		x = node(api.ENot, r.condition())
	} else {
		first := r.condition()
		sign := strings.TrimSpace(r.take(signHead))
		op := api.EAdd + slices.Index(strings.Fields("+ - * = != < <= AND OR"), sign)
		x = node(op, first, r.condition())
	}
	r.must(")")
	return x
}

func (r *reader) element() api.Elem {
	e := api.Elem{Not: r.eat("!"), Alias: r.take(nameHead)}
	r.must(":")
	e.Types = append(e.Types, r.take(nameHead))
	for r.eat("|") {
		e.Types = append(e.Types, r.take(nameHead))
	}
	e.Plus = r.eat("+")
	if r.eat("[") {
		e.Cond = r.condition()
		r.must("]")
	}
	return e
}

func (r *reader) pattern() api.Pattern {
	p := api.Pattern{}
	r.must("SEQ(")
	p.Elems = append(p.Elems, r.element())
	for r.eat(", ") {
		p.Elems = append(p.Elems, r.element())
	}
	r.must(") WITHIN ")
	p.Within, _ = strconv.Atoi(r.take(numHead))
	if r.eat(" BY ") {
		p.By = r.take(nameHead)
	}
	p.Any = r.eat(" ANY")
	return p
}

// A draw: numbers that look like chance, the same ones each time.
type draw uint64

func (d *draw) next() uint64 {
	*d = *d*6364136223846793005 + 1442695040888963407
	return uint64(*d) >> 33
}

func (d *draw) below(n int) int { return int(d.next() % uint64(n)) }

func (d *draw) name() string {
	out := make([]byte, 1+d.below(api.MaxName))
	for i := range out {
		out[i] = byte('a' + d.below(26))
	}
	return string(out)
}

func (d *draw) value() api.Value {
	switch d.below(4) {
	case 0:
		return num(int64(d.next()<<33|d.next()) >> d.below(64))
	case 1:
		return boolean(int64(d.below(2)))
	}
	out := make([]byte, d.below(api.MaxText+1))
	for i := range out {
		out[i] = byte(32 + d.below(95))
		if d.below(3) == 0 {
			out[i] = `"\`[d.below(2)]
		}
	}
	return str(string(out))
}

func (d *draw) condition(depth int) api.Expr {
	op := api.EAdd + d.below(api.ENot-api.EAdd+1)
	switch {
	case depth == 1 || d.below(4) == 0:
		if d.below(2) == 0 {
			return lit(d.value())
		}
		return field(d.name(), d.name())
	case op == api.ENot || d.below(5) == 0:
		return node(api.ENot, d.condition(depth-1))
	}
	return node(op, d.condition(depth-1), d.condition(depth-1))
}

func (d *draw) pattern() api.Pattern {
	p := api.Pattern{Within: d.below(api.MaxWithin + 1), Any: d.below(2) == 0}
	if d.below(2) == 0 {
		p.By = d.name()
	}
	for range 1 + d.below(api.MaxElems) {
		e := api.Elem{Alias: d.name(), Plus: d.below(3) == 0, Not: d.below(4) == 0}
		for range 1 + d.below(api.MaxAlts) {
			e.Types = value.With(e.Types, d.name())
		}
		if d.below(2) == 0 {
			e.Cond = d.condition(1 + d.below(4))
		}
		p.Elems = append(p.Elems, e)
	}
	return p
}

func TestValuesOutOfTheirTexts(t *testing.T) {
	d := draw(81)
	for range 20000 {
		v := d.value()
		r := reader{t, Value(v)}
		if got, ok := r.value(); !ok || !value.Same(got, v) || r.rest != "" {
			t.Fatalf("P8.2: %s is %+v, not %+v", Value(v), got, v)
		}
	}
}

func TestConditionsOutOfTheirTexts(t *testing.T) {
	d, told := draw(82), 0
	for range 20000 {
		x := d.condition(1 + d.below(api.MaxDepth))
		s := Expr(x)
		if expr.Is(x) != (s != "") {
			t.Fatalf("P8.1: Expr of %+v: %q", x, s)
		}
		if s == "" {
			continue
		}
		told++
		r := reader{t, s}
		if got := r.condition(); !expr.Same(got, x) || r.rest != "" {
			t.Fatalf("P8.2: %s is %+v, not %+v", s, got, x)
		}
	}
	if told < 10000 {
		t.Errorf("%d of 20000 draws are conditions: not a fair test", told)
	}
}

func TestPatternsOutOfTheirTexts(t *testing.T) {
	d, told := draw(83), 0
	for range 20000 {
		p := d.pattern()
		s := Pattern(p)
		if expr.Pattern(p) != (s != "") {
			t.Fatalf("P8.1: Pattern of %+v: %q", p, s)
		}
		if s == "" {
			continue
		}
		told++
		r := reader{t, s}
		if got := r.pattern(); !expr.SamePattern(got, p) || r.rest != "" {
			t.Fatalf("P8.2: %s is %+v, not %+v", s, got, p)
		}
	}
	if told < 5000 {
		t.Errorf("%d of 20000 draws are patterns: not a fair test", told)
	}
}

// near: conditions that could be taken for one another, if their texts were
// put together with less care.
func near() []api.Expr {
	one, two, three := lit(num(1)), lit(num(2)), lit(num(3))
	l := []api.Expr{
		one, two, lit(num(-1)), lit(num(12)), lit(str("1")), lit(str("2")), lit(str("")), lit(str(" ")),
		lit(boolean(0)), lit(boolean(1)), lit(num(0)), lit(str("TRUE")), lit(str("FALSE")), lit(str("true")), field("true", "a"),
		field("a", "b"), field("b", "a"), field("ab", "c"), field("a", "bc"), lit(str("a.b")),
		lit(str(`"`)), lit(str(`\"`)), lit(str(`\`)), lit(str(`\\`)), lit(str(`""`)), lit(str(`"\`)),
		node(api.ENot, one), node(api.ENot, node(api.ENot, one)), lit(str("(NOT 1)")), lit(str("(1 + 2)")),
		node(api.ENot, node(api.EAnd, one, two)), node(api.EAnd, node(api.ENot, one), two), node(api.EAnd, one, node(api.ENot, two)),
		node(api.ESub, one, lit(num(-2))), node(api.EAdd, lit(num(-1)), two),
	}
	for op := api.EAdd; op <= api.EOr; op++ {
		l = append(l, node(op, one, two), node(op, two, one), node(op, one, one))
		for under := api.EAdd; under <= api.EOr; under++ {
			l = append(l, node(op, node(under, one, two), three), node(op, one, node(under, two, three)))
		}
	}
	return l
}

func TestOneTextForEachCondition(t *testing.T) {
	texts := map[string]int{}
	for i, x := range near() {
		s := Expr(x)
		k, there := texts[s]
		if s == "" || there {
			t.Errorf("P8.2: rows %d and %d have one text: %q", k, i, s)
		}
		texts[s] = i
	}
}

func TestOneTextForEachPattern(t *testing.T) {
	texts := map[string]int{}
	var l []api.Pattern
	add := func(p api.Pattern) { l = append(l, p) }
	for _, x := range near() {
		add(api.Pattern{Elems: []api.Elem{asks(elem("a", "b"), x)}})
	}
	for _, elems := range [][]api.Elem{
		{elem("a", "b")}, {elem("b", "a")}, {elem("ab", "c")}, {elem("a", "bc")}, {elem("a", "b", "c")}, {some(elem("a", "b"))}, {some(elem("a", "b", "c"))},
		{elem("a", "b"), elem("c", "d")}, {elem("c", "d"), elem("a", "b")}, {some(elem("a", "b")), elem("c", "d")}, {elem("a", "b"), some(elem("c", "d"))},
		{elem("a", "b"), elem("c", "d"), elem("e", "f")}, {elem("a", "b"), none(elem("c", "d")), elem("e", "f")}, {elem("a", "b"), some(elem("c", "d")), elem("e", "f")},
		{asks(elem("a", "b"), lit(num(1))), elem("c", "d")}, {elem("a", "b"), asks(elem("c", "d"), lit(num(1)))},
	} {
		for _, within := range []int{0, 1, 10, 100, api.MaxWithin} {
			for _, by := range []string{"", "a", "any", "by"} {
				add(api.Pattern{Elems: elems, Within: within, By: by, Any: false})
				add(api.Pattern{Elems: elems, Within: within, By: by, Any: true})
			}
		}
	}
	for i, p := range l {
		s := Pattern(p)
		k, there := texts[s]
		if same := there && expr.SamePattern(p, l[k]); s == "" || there && !same {
			t.Errorf("P8.2: rows %d and %d have one text: %q", k, i, s)
		}
		texts[s] = i
	}
}
