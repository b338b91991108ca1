package check

import (
	"cmp"
	"maps"
	"slices"
	"testing"

	"pastern/api"
	"pastern/expr"
	"pastern/parse"
	"pastern/show"
)

func askPattern(t *testing.T, s api.Schema, p api.Pattern, want api.Errno) {
	t.Helper()
	if err := Pattern(s, p); errno(err) != want {
		t.Errorf("P10.2: Pattern(%s) = %v, not %d; %+v", show.Pattern(p), err, want, p)
	}
}

// askText: the same of a pattern as a text, whatever its window, skipping or not.
func askText(t *testing.T, want api.Errno, l ...string) {
	t.Helper()
	for _, s := range l {
		p, err := parse.Pattern(s)
		if err != nil {
			t.Fatalf("no pattern: %s: %v", s, err)
		}
		for _, p.Within = range []int{0, 5, api.MaxWithin} {
			for _, p.Any = range []bool{false, true} {
				askPattern(t, trades(), p, want)
			}
		}
	}
}

func TestPatternsThatSuit(t *testing.T) {
	askText(t, 0,
		"SEQ(a:buy) WITHIN 5",
		"SEQ(a:idle) WITHIN 5",
		"SEQ(a:buy|idle|sell+) WITHIN 5",
		"SEQ(a:buy[a.firm]) WITHIN 5",
		"SEQ(a:buy[TRUE]) WITHIN 5",
		"SEQ(a:buy|sell[(a.price < 3)]) WITHIN 5 BY item",
		"SEQ(a:buy, !b:idle, c:sell) WITHIN 5",
		"SEQ(a:buy, b:buy|sell+[(b.price < a.price)], !c:mark[(c.price = a.item)], d:sell[((d.firm = b.price) AND (d.item != a.item))]) WITHIN 5 ANY",
		"SEQ(a:buy[(a.size = a.price)], !b:buy[(b.size < a.size)], c:buy, !d:sell[(d.price = c.size)], e:buy[((a.firm AND c.firm) OR e.firm)]) WITHIN 5 BY price",
		"SEQ(a:mark, b:mark) WITHIN 5 BY item",
	)
}

func TestPatternByForm(t *testing.T) {
	a, b, none := elem("a", "buy"), elem("b", "sell"), elem("c", "none")
	none.Cond = at("z", "none")
	with := func(e api.Elem, change func(e *api.Elem)) api.Elem {
		change(&e)
		return e
	}
	not := func(e *api.Elem) { e.Not = true }
	for i, p := range []api.Pattern{
		{},
		{Elems: []api.Elem{}},
		{Elems: []api.Elem{none, none}},
		{Elems: []api.Elem{with(a, not)}},
		{Elems: []api.Elem{none, with(b, not)}},
		{Elems: []api.Elem{with(none, not), a}},
		{Elems: []api.Elem{none, with(a, not), with(b, not), elem("d", "buy")}},
		{Elems: []api.Elem{none, elem("d", "buy"), elem("e", "buy"), elem("f", "buy"), elem("g", "buy"), elem("h", "buy")}},
		{Elems: []api.Elem{none, elem("", "buy")}},
		{Elems: []api.Elem{none, elem("B", "buy")}},
		{Elems: []api.Elem{none, elem("b")}},
		{Elems: []api.Elem{none, elem("b", "sell", "buy")}},
		{Elems: []api.Elem{none, elem("b", "buy", "buy")}},
		{Elems: []api.Elem{none, elem("b", "buy", "idle", "mark", "sell")}},
		{Elems: []api.Elem{none, elem("b", "Buy")}},
		{Elems: []api.Elem{none, with(b, func(e *api.Elem) { e.Not, e.Plus = true, true }), a}},
		{Elems: []api.Elem{none, with(b, func(e *api.Elem) { e.Cond = api.Expr{Op: 99} })}},
		{Elems: []api.Elem{none, with(b, func(e *api.Elem) { e.Cond = api.Expr{Alias: "a"} })}},
		{Elems: []api.Elem{none, with(b, func(e *api.Elem) { e.Cond = node(api.EAnd, lit(api.Bool)) })}},
		{Elems: []api.Elem{none, with(b, func(e *api.Elem) { e.Cond.Kids = []api.Expr{{}} })}},
		{Elems: []api.Elem{none}, Within: -1},
		{Elems: []api.Elem{none}, Within: api.MaxWithin + 1},
		{Elems: []api.Elem{none}, By: "Price"},
		{Elems: []api.Elem{none}, By: "ninebytes"},
	} {
		if err := Pattern(trades(), p); errno(err) != api.ErrForm {
			t.Errorf("P10.2: row %d, no pattern: %v", i, err)
		}
	}
	askPattern(t, trades(), api.Pattern{Elems: []api.Elem{none}}, api.ErrName)
}

func TestPatternByTypes(t *testing.T) {
	askText(t, api.ErrName,
		"SEQ(a:none) WITHIN 5",
		"SEQ(a:bu) WITHIN 5",
		"SEQ(a:buyy) WITHIN 5",
		"SEQ(a:aaa|buy) WITHIN 5",
		"SEQ(a:buy|none) WITHIN 5",
		"SEQ(a:buy|none|sell) WITHIN 5",
		"SEQ(a:buy, b:none) WITHIN 5",
		"SEQ(a:buy, !b:none, c:sell) WITHIN 5",
		"SEQ(a:buy, b:none+, c:sell) WITHIN 5",
		"SEQ(a:price) WITHIN 5",
	)
	askPattern(t, api.Schema{}, api.Pattern{Elems: []api.Elem{elem("a", "buy")}}, api.ErrName)
}

func TestPatternByConditions(t *testing.T) {
	askText(t, api.ErrName,
		"SEQ(a:buy[(a.none = 1)]) WITHIN 5",
		"SEQ(a:buy[(z.price = 1)]) WITHIN 5",
		"SEQ(a:buy[(buy.price = 1)]) WITHIN 5",
		"SEQ(a:buy|sell[(a.size = 1)]) WITHIN 5",
		"SEQ(a:idle[a.firm]) WITHIN 5",
		"SEQ(a:buy, b:sell[(b.size = a.size)]) WITHIN 5",
		"SEQ(a:buy, !b:sell[b.size], c:buy) WITHIN 5",
		"SEQ(a:buy[(TRUE OR z.price)]) WITHIN 5",
	)
	askText(t, api.ErrKind,
		"SEQ(a:buy|sell[(a.firm = 1)]) WITHIN 5",
		"SEQ(a:buy|sell[a.firm]) WITHIN 5",
		"SEQ(a:buy[(a.item + 1)]) WITHIN 5",
		"SEQ(a:buy[(a.item = a.price)]) WITHIN 5",
		"SEQ(a:buy, !b:sell[(b.price = a.item)], c:buy) WITHIN 5",
		"SEQ(a:buy|mark, b:sell[(a.price = b.price)]) WITHIN 5",
		// These have a Kind, but not Bool.
		"SEQ(a:buy[1]) WITHIN 5",
		`SEQ(a:buy["TRUE"]) WITHIN 5`,
		"SEQ(a:buy[a.price]) WITHIN 5",
		"SEQ(a:buy[a.item]) WITHIN 5",
		"SEQ(a:buy[(a.price + 1)]) WITHIN 5",
		"SEQ(a:buy, b:buy[a.size]) WITHIN 5",
		"SEQ(a:buy, !b:buy[b.size], c:buy) WITHIN 5",
		"SEQ(a:buy, b:buy+[b.item]) WITHIN 5",
	)
}

// rows: all patterns of so many elements, each of them a Not or none.
func rows(n int) []api.Pattern {
	var out []api.Pattern
	for row := range 1 << n {
		p := api.Pattern{}
		for i, alias := range []string{"e", "a", "d", "b", "c"}[:n] {
			p.Elems = append(p.Elems, api.Elem{Alias: alias, Types: []string{"buy"}, Not: row>>i&1 == 1})
		}
		if expr.Pattern(p) {
			out = append(out, p)
		}
	}
	return out
}

// TestWhatAConditionMayName has each element of all rows name each other one:
// what is ahead and no Not may be named, and itself.
func TestWhatAConditionMayName(t *testing.T) {
	for n := 1; n <= api.MaxElems; n++ {
		for _, p := range rows(n) {
			for i := range p.Elems {
				for k, other := range p.Elems {
					p.Elems[i].Cond = node(api.EEq, at(other.Alias, "price"), lit(api.Int))
					want := api.ErrName
					if k == i || k < i && !other.Not {
						want = 0
					}
					askPattern(t, trades(), p, want)
				}
				p.Elems[i].Cond = api.Expr{}
			}
		}
	}
}

func TestPatternByBy(t *testing.T) {
	askText(t, 0,
		"SEQ(a:buy) WITHIN 5 BY firm",
		"SEQ(a:buy|sell, b:sell+, c:buy) WITHIN 5 BY item",
		"SEQ(a:buy, !b:sell, c:buy) WITHIN 5 BY price",
		"SEQ(a:mark, b:mark) WITHIN 5 BY price",
	)
	askText(t, api.ErrName,
		"SEQ(a:buy) WITHIN 5 BY none",
		"SEQ(a:buy) WITHIN 5 BY buy",
		"SEQ(a:buy) WITHIN 5 BY a",
		"SEQ(a:idle) WITHIN 5 BY price",
		"SEQ(a:buy|sell) WITHIN 5 BY size",
		"SEQ(a:buy, b:sell) WITHIN 5 BY size",
		"SEQ(a:sell, b:buy) WITHIN 5 BY size",
		"SEQ(a:buy, !b:sell, c:buy) WITHIN 5 BY size",
		"SEQ(a:buy, !b:idle, c:buy) WITHIN 5 BY price",
		"SEQ(a:buy, b:idle|sell+) WITHIN 5 BY price",
	)
	askText(t, api.ErrKind,
		"SEQ(a:buy|sell) WITHIN 5 BY firm",
		"SEQ(a:buy, b:sell) WITHIN 5 BY firm",
		"SEQ(a:buy, b:buy, c:mark) WITHIN 5 BY item",
		"SEQ(a:buy, !b:mark, c:buy) WITHIN 5 BY item",
		"SEQ(a:buy, b:mark, c:buy) WITHIN 5 BY price",
		"SEQ(a:mark|sell, b:mark) WITHIN 5 BY price",
	)
	// A name that lacks outweighs Kinds that differ ahead of it.
	askText(t, api.ErrName,
		"SEQ(a:buy|mark, b:idle) WITHIN 5 BY price",
		"SEQ(a:buy, b:mark, c:idle) WITHIN 5 BY item",
		"SEQ(a:buy, b:sell, c:mark) WITHIN 5 BY firm",
		"SEQ(a:buy|idle|mark) WITHIN 5 BY price",
	)
}

// TestWhichErrorComesFirst has two elements of each fault, and a By of each:
// the elements from the left, of each its types ahead of its condition, By last.
func TestWhichErrorComesFirst(t *testing.T) {
	faults := []struct {
		rest string
		want api.Errno
	}{
		{"buy", 0},
		{"buy[TRUE]", 0},
		{"none", api.ErrName},
		{"none[5]", api.ErrName},
		{"buy|none[(1 + TRUE)]", api.ErrName},
		{"buy[z.x]", api.ErrName},
		{"buy[(z.x + TRUE)]", api.ErrName},
		{"buy[((1 + TRUE) = z.x)]", api.ErrKind},
		{"buy[(1 + TRUE)]", api.ErrKind},
		{"buy[5]", api.ErrKind},
	}
	bys := map[string]api.Errno{"": 0, " BY price": 0, " BY size": api.ErrName, " BY firm": api.ErrKind}
	for _, a := range faults {
		for _, b := range faults {
			for by, last := range bys {
				askText(t, cmp.Or(a.want, b.want, last), "SEQ(a:"+a.rest+", b:"+b.rest+", c:sell) WITHIN 5"+by)
			}
		}
	}
}

func TestScopesMayBeLeftAndGoneThroughAgain(t *testing.T) {
	not := elem("d", "buy")
	not.Not = true
	walk := scopes([]api.Elem{elem("a", "buy"), elem("b", "buy"), elem("c", "buy"), not, elem("e", "buy")})
	want := []string{"a: a ", "b: a b ", "c: a b c ", "d: a b c d ", "e: a b c e "}
	for n := range len(want) + 1 {
		names := map[string][]api.Elem{}
		for e, named := range walk {
			if len(names) == n {
				break
			}
			names[e.Alias] = named
			for range walk {
				break
			}
		}
		var got []string
		for _, alias := range slices.Sorted(maps.Keys(names)) {
			line := alias + ": "
			for _, e := range names[alias] {
				line += e.Alias + " "
			}
			got = append(got, line)
		}
		if !slices.Equal(got, want[:n]) {
			t.Errorf("P10.2: left behind %d: %q", n, got)
		}
	}
}
