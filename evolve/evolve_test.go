package evolve

import (
	"errors"
	"math"
	"slices"
	"strings"
	"testing"

	"pastern/api"
	"pastern/event"
	"pastern/schema"
	"pastern/value"
)

func num(n int64) api.Value { return api.Value{Kind: api.Int, N: n} }

func text(s string) api.Value { return api.Value{Kind: api.Str, S: s} }

func truth(n int64) api.Value { return api.Value{Kind: api.Bool, N: n} }

func add(typ, field string, def api.Value) api.Change {
	return api.Change{Kind: api.SAdd, Type: typ, Field: field, Def: def}
}

func drop(typ, field string) api.Change {
	return api.Change{Kind: api.SDrop, Type: typ, Field: field}
}

func rename(typ, field, to string) api.Change {
	return api.Change{Kind: api.SRename, Type: typ, Field: field, To: to}
}

func widen(typ, field string) api.Change {
	return api.Change{Kind: api.SWiden, Type: typ, Field: field}
}

func fresh(typ string) api.Change { return api.Change{Kind: api.SType, Type: typ} }

// trades: a type with a field of each kind, one with none, one whose fields
// bear names of the first one's at other places.
func trades() api.Schema {
	return read("buy price:int item:str firm:bool, idle, sell item:str price:int")
}

func hay() api.Event {
	return api.Event{Type: "buy", Ts: 5, Vals: []api.Value{num(7), text("hay"), truth(1)}}
}

func oats() api.Event {
	return api.Event{Type: "sell", Ts: 6, Vals: []api.Value{text("oats"), num(3)}}
}

// full: a schema of all the types, and a first type of all the fields, that
// there may be.
func full() api.Schema {
	return read("a v:int w:str x:bool y:int z:str, c, e, g, i x:bool")
}

// read makes a schema of a text, so that what a test wants is seen at once.
func read(s string) api.Schema {
	var out api.Schema
	for part := range strings.SplitSeq(s, ", ") {
		words := strings.Fields(part)
		t := api.Type{Name: words[0]}
		for _, w := range words[1:] {
			name, kind, _ := strings.Cut(w, ":")
			t.Fields = append(t.Fields, api.Field{Name: name, Kind: slices.Index([]string{"", "int", "str", "bool"}, kind)})
		}
		out.Types = append(out.Types, t)
	}
	return out
}

func applied(t *testing.T, s api.Schema, c api.Change, want string) {
	t.Helper()
	got, err := Apply(s, c)
	if err != nil || !schema.Same(got, read(want)) || !schema.Is(got) {
		t.Errorf("P4.1: Apply(%v, %+v) = %v, %v, want %s", s, c, got, err, want)
	}
}

// refused asks for just that number, and for the schema as it was.
func refused(t *testing.T, s api.Schema, c api.Change, want api.Errno) {
	t.Helper()
	got, err := Apply(s, c)
	var number api.Errno
	if !errors.As(err, &number) || number != want || !errors.Is(err, want) {
		t.Errorf("P4.1: Apply(%v, %+v): %v, want %v", s, c, err, want)
	}
	if !schema.Same(got, s) {
		t.Errorf("P4.1: Apply(%v, %+v) beside an error: %v", s, c, got)
	}
}

func TestApplyOfTypes(t *testing.T) {
	const buy, idle, sell = "buy price:int item:str firm:bool", "idle", "sell item:str price:int"
	for typ, want := range map[string]string{
		"a":        "a, " + buy + ", " + idle + ", " + sell,
		"bux":      "bux, " + buy + ", " + idle + ", " + sell,
		"buyy":     buy + ", buyy, " + idle + ", " + sell,
		"c":        buy + ", c, " + idle + ", " + sell,
		"idl":      buy + ", idl, " + idle + ", " + sell,
		"m":        buy + ", " + idle + ", m, " + sell,
		"sellll":   buy + ", " + idle + ", " + sell + ", sellll",
		"zzzzzzzz": buy + ", " + idle + ", " + sell + ", zzzzzzzz",
	} {
		applied(t, trades(), fresh(typ), want)
	}
	for _, none := range []api.Schema{{}, {Types: []api.Type{}}} {
		applied(t, none, fresh("a"), "a")
	}
	applied(t, read("a, c, e, g"), fresh("b"), "a, b, c, e, g")
	for _, typ := range []string{"buy", "idle", "sell"} {
		refused(t, trades(), fresh(typ), api.ErrName)
	}
	for _, typ := range []string{"b", "d", "zz"} {
		refused(t, full(), fresh(typ), api.ErrLarge)
	}
	for _, typ := range []string{"a", "e", "i"} {
		refused(t, full(), fresh(typ), api.ErrName)
	}
}

func TestApplyOfAdd(t *testing.T) {
	applied(t, trades(), add("buy", "n", num(5)), "buy price:int item:str firm:bool n:int, idle, sell item:str price:int")
	applied(t, trades(), add("buy", "a", text("")), "buy price:int item:str firm:bool a:str, idle, sell item:str price:int")
	applied(t, trades(), add("idle", "price", truth(1)), "buy price:int item:str firm:bool, idle price:bool, sell item:str price:int")
	applied(t, trades(), add("sell", "firm", truth(0)), "buy price:int item:str firm:bool, idle, sell item:str price:int firm:bool")
	applied(t, trades(), add("sell", "sell", num(math.MinInt64)), "buy price:int item:str firm:bool, idle, sell item:str price:int sell:int")
	applied(t, trades(), add("sell", "eightlet", text("0123456789abcdef")), "buy price:int item:str firm:bool, idle, sell item:str price:int eightlet:str")
	applied(t, read("a v:int w:str x:bool y:int"), add("a", "z", num(1)), "a v:int w:str x:bool y:int z:int")
	applied(t, full(), add("i", "v", num(1)), "a v:int w:str x:bool y:int z:str, c, e, g, i x:bool v:int")
	for _, field := range []string{"price", "item", "firm"} {
		refused(t, trades(), add("buy", field, num(1)), api.ErrName)
		refused(t, trades(), add("buy", field, truth(1)), api.ErrName)
	}
	refused(t, full(), add("a", "u", num(1)), api.ErrLarge)
	refused(t, full(), add("a", "v", num(1)), api.ErrName)
}

func TestApplyOfAddByForm(t *testing.T) {
	for _, field := range []string{"", "N", "a1", "a b", "ninelette", "é", "\xff"} {
		refused(t, trades(), add("buy", field, num(1)), api.ErrForm)
		refused(t, full(), add("a", field, num(1)), api.ErrForm)
	}
	for _, def := range []api.Value{
		{},
		{Kind: 4},
		{Kind: -1, N: 1},
		{Kind: api.Int, S: "x"},
		{Kind: api.Str, N: 1},
		{Kind: api.Bool, S: "x"},
		truth(2),
		truth(-1),
		text("0123456789abcdefg"),
		text("\x1f"),
	} {
		refused(t, trades(), add("buy", "n", def), api.ErrForm)
		refused(t, trades(), add("buy", "price", def), api.ErrForm)
		refused(t, full(), add("a", "u", def), api.ErrForm)
	}
}

func TestApplyOfDrop(t *testing.T) {
	applied(t, trades(), drop("buy", "price"), "buy item:str firm:bool, idle, sell item:str price:int")
	applied(t, trades(), drop("buy", "item"), "buy price:int firm:bool, idle, sell item:str price:int")
	applied(t, trades(), drop("buy", "firm"), "buy price:int item:str, idle, sell item:str price:int")
	applied(t, trades(), drop("sell", "item"), "buy price:int item:str firm:bool, idle, sell price:int")
	applied(t, full(), drop("i", "x"), "a v:int w:str x:bool y:int z:str, c, e, g, i")
	for _, field := range []string{"", "p", "pricee", "Price", "buy", "ninelette", "\xff"} {
		refused(t, trades(), drop("buy", field), api.ErrName)
		refused(t, trades(), drop("idle", field), api.ErrName)
	}
	refused(t, trades(), drop("sell", "firm"), api.ErrName)
}

func TestApplyOfRename(t *testing.T) {
	applied(t, trades(), rename("buy", "price", "cost"), "buy cost:int item:str firm:bool, idle, sell item:str price:int")
	applied(t, trades(), rename("buy", "item", "a"), "buy price:int a:str firm:bool, idle, sell item:str price:int")
	applied(t, trades(), rename("buy", "firm", "eightlet"), "buy price:int item:str eightlet:bool, idle, sell item:str price:int")
	applied(t, trades(), rename("sell", "price", "firm"), "buy price:int item:str firm:bool, idle, sell item:str firm:int")
	applied(t, full(), rename("a", "v", "u"), "a u:int w:str x:bool y:int z:str, c, e, g, i x:bool")
	for _, field := range []string{"", "p", "Price", "cost", "\xff"} {
		for _, to := range []string{"", "Q", "cost", "item", "ninelette"} {
			refused(t, trades(), rename("buy", field, to), api.ErrName)
		}
	}
	for _, to := range []string{"", "Q", "a1", "ninelette", "é"} {
		refused(t, trades(), rename("buy", "price", to), api.ErrForm)
	}
	for _, to := range []string{"price", "item", "firm"} {
		refused(t, trades(), rename("buy", "price", to), api.ErrName)
		refused(t, trades(), rename("buy", "firm", to), api.ErrName)
	}
}

func TestApplyOfWiden(t *testing.T) {
	applied(t, trades(), widen("buy", "firm"), "buy price:int item:str firm:int, idle, sell item:str price:int")
	applied(t, full(), widen("i", "x"), "a v:int w:str x:bool y:int z:str, c, e, g, i x:int")
	applied(t, full(), widen("a", "x"), "a v:int w:str x:int y:int z:str, c, e, g, i x:bool")
	refused(t, trades(), widen("buy", "price"), api.ErrKind)
	refused(t, trades(), widen("buy", "item"), api.ErrKind)
	for _, field := range []string{"", "f", "Firm", "\xff"} {
		refused(t, trades(), widen("buy", field), api.ErrName)
	}
	refused(t, trades(), widen("sell", "firm"), api.ErrName)
}

func TestApplyByKindAndType(t *testing.T) {
	for _, kind := range []int{0, -1, api.SType + 1, math.MinInt, math.MaxInt, 1<<32 + api.SDrop} {
		for _, typ := range []string{"buy", "zz", "", "B"} {
			refused(t, trades(), api.Change{Kind: kind, Type: typ}, api.ErrForm)
			refused(t, trades(), api.Change{Kind: kind, Type: typ, Field: "price"}, api.ErrForm)
		}
	}
	for _, typ := range []string{"", "B", "buy ", "a1", "ninelette", "é", "\xff"} {
		for _, c := range []api.Change{add(typ, "n", num(1)), drop(typ, "price"), rename(typ, "price", "cost"), widen(typ, "firm"), fresh(typ)} {
			refused(t, trades(), c, api.ErrForm)
			refused(t, api.Schema{}, c, api.ErrForm)
		}
	}
	for _, typ := range []string{"b", "zz", "price"} {
		for _, c := range []api.Change{
			add(typ, "n", num(1)), add(typ, "N", num(1)), add(typ, "n", api.Value{}), add(typ, "price", num(1)),
			drop(typ, "price"), drop(typ, ""), rename(typ, "price", "cost"), rename(typ, "price", "C"), widen(typ, "firm"), widen(typ, "price"),
		} {
			refused(t, trades(), c, api.ErrName)
			refused(t, api.Schema{}, c, api.ErrName)
		}
	}
}

// TestApplyByUnusedParts: a part that isn't used outweighs all that comes
// behind it, also where that alone would be refused otherwise.
func TestApplyByUnusedParts(t *testing.T) {
	field := func(c api.Change) api.Change { c.Field = "x"; return c }
	to := func(c api.Change) api.Change { c.To = "x"; return c }
	odd := []func(api.Change) api.Change{
		func(c api.Change) api.Change { c.Def = num(0); return c },
		func(c api.Change) api.Change { c.Def = api.Value{N: 1}; return c },
		func(c api.Change) api.Change { c.Def = api.Value{S: "x"}; return c },
	}
	for _, typ := range []string{"buy", "zz"} {
		for _, name := range []string{"price", "firm", "zz", "N", ""} {
			refused(t, trades(), to(add(typ, name, num(1))), api.ErrForm)
			refused(t, trades(), to(add(typ, name, api.Value{})), api.ErrForm)
			refused(t, trades(), to(drop(typ, name)), api.ErrForm)
			refused(t, trades(), to(widen(typ, name)), api.ErrForm)
			for _, def := range odd {
				refused(t, trades(), def(drop(typ, name)), api.ErrForm)
				refused(t, trades(), def(widen(typ, name)), api.ErrForm)
				refused(t, trades(), def(rename(typ, name, "cost")), api.ErrForm)
				refused(t, trades(), def(rename(typ, name, name)), api.ErrForm)
			}
		}
		refused(t, trades(), field(fresh(typ)), api.ErrForm)
		refused(t, trades(), to(fresh(typ)), api.ErrForm)
		refused(t, full(), field(fresh(typ)), api.ErrForm)
		for _, def := range odd {
			refused(t, trades(), def(fresh(typ)), api.ErrForm)
		}
	}
}

// roomy gives every list of a schema spare room that tells when it is written
// to.
func roomy(s api.Schema) api.Schema {
	n := len(s.Types)
	s.Types = append(s.Types, api.Type{Name: "room"}, api.Type{Name: "room"})[:n]
	for i, t := range s.Types {
		n := len(t.Fields)
		s.Types[i].Fields = append(t.Fields, api.Field{Name: "room"}, api.Field{Name: "room"})[:n]
	}
	return s
}

func roomIsAsItWas(s api.Schema) bool {
	for _, t := range s.Types {
		n := len(t.Fields)
		if !slices.Equal(t.Fields[n:n+2], []api.Field{{Name: "room"}, {Name: "room"}}) {
			return false
		}
	}
	n := len(s.Types)
	return s.Types[n : n+2][0].Name == "room" && s.Types[n : n+2][1].Name == "room"
}

// spoil writes over all of a schema, its spare room included.
func spoil(s api.Schema) {
	for _, t := range s.Types[:cap(s.Types)] {
		for i := range t.Fields[:cap(t.Fields)] {
			t.Fields[:cap(t.Fields)][i] = api.Field{Name: "spoilt"}
		}
	}
	for i := range s.Types[:cap(s.Types)] {
		s.Types[:cap(s.Types)][i] = api.Type{Name: "spoilt"}
	}
}

// some: a change of each kind that may be, and one of each refusal.
func some() []api.Change {
	return []api.Change{
		add("buy", "n", num(5)), add("idle", "n", text("x")), drop("buy", "price"), drop("sell", "price"), rename("buy", "item", "a"),
		widen("buy", "firm"), fresh("a"), fresh("m"), fresh("z"),
		{}, fresh("buy"), drop("zz", "price"), add("buy", "price", num(1)), widen("buy", "item"),
	}
}

func TestApplySharesNothing(t *testing.T) {
	for _, c := range some() {
		s := roomy(trades())
		first, _ := Apply(s, c)
		second, _ := Apply(s, c)
		want, _ := Apply(trades(), c)
		if !schema.Same(s, trades()) || !roomIsAsItWas(s) {
			t.Errorf("P4.1: Apply of %+v changed what it was given: %v", c, s)
		}
		for i := range first.Types {
			if !slices.Equal(first.Types[i].Fields, want.Types[i].Fields) {
				t.Errorf("P4.1: Apply of %+v: type %d shares fields with one ahead of it", c, i)
			}
			spoil(api.Schema{Types: slices.Clone(first.Types[i : i+1])})
		}
		spoil(first)
		if !schema.Same(s, trades()) || !roomIsAsItWas(s) {
			t.Errorf("P4.1: what Apply of %+v answers lies in what it was given: %v", c, s)
		}
		if !schema.Same(second, want) {
			t.Errorf("P4.1: two answers of Apply of %+v share memory: %v", c, second)
		}
		spoil(s)
		if !schema.Same(second, want) {
			t.Errorf("P4.1: what Apply of %+v answered changes with what it was given: %v", c, second)
		}
	}
}

func movesTo(t *testing.T, c api.Change, e api.Event, want ...api.Value) {
	t.Helper()
	if got := Move(trades(), c, e); !event.Same(got, api.Event{Type: e.Type, Ts: e.Ts, Vals: want}) {
		t.Errorf("P4.2: Move(%+v, %v) = %v, want %v", c, e, got, want)
	}
}

func TestMove(t *testing.T) {
	movesTo(t, add("buy", "n", num(5)), hay(), num(7), text("hay"), truth(1), num(5))
	movesTo(t, add("buy", "a", text("x")), hay(), num(7), text("hay"), truth(1), text("x"))
	movesTo(t, add("buy", "n", truth(0)), hay(), num(7), text("hay"), truth(1), truth(0))
	movesTo(t, drop("buy", "price"), hay(), text("hay"), truth(1))
	movesTo(t, drop("buy", "item"), hay(), num(7), truth(1))
	movesTo(t, drop("buy", "firm"), hay(), num(7), text("hay"))
	movesTo(t, rename("buy", "price", "cost"), hay(), hay().Vals...)
	movesTo(t, rename("buy", "firm", "a"), hay(), hay().Vals...)
	movesTo(t, widen("buy", "firm"), hay(), num(7), text("hay"), num(1))
	movesTo(t, fresh("m"), hay(), hay().Vals...)

	no := hay()
	no.Vals[2] = truth(0)
	movesTo(t, widen("buy", "firm"), no, num(7), text("hay"), num(0))
	idle := api.Event{Type: "idle", Ts: api.MaxTs}
	movesTo(t, add("idle", "n", num(5)), idle, num(5))
	movesTo(t, fresh("a"), idle)
	alone := api.Event{Type: "i", Vals: []api.Value{truth(1)}}
	if got := Move(full(), drop("i", "x"), alone); !event.Same(got, api.Event{Type: "i"}) {
		t.Errorf("P4.2: without its only value: %v", got)
	}
}

func TestMoveOfAnotherType(t *testing.T) {
	for _, c := range []api.Change{
		add("sell", "n", num(5)), add("idle", "price", num(5)), drop("sell", "price"), drop("sell", "item"), rename("sell", "item", "firm"), fresh("bux"),
	} {
		movesTo(t, c, hay(), hay().Vals...)
	}
	for _, c := range []api.Change{
		add("buy", "n", num(5)), add("idle", "item", text("x")), drop("buy", "price"), drop("buy", "item"), rename("buy", "item", "a"), widen("buy", "firm"),
	} {
		movesTo(t, c, oats(), oats().Vals...)
	}
	both := full()
	e := api.Event{Type: "i", Vals: []api.Value{truth(1)}}
	if got := Move(both, widen("a", "x"), e); !event.Same(got, e) {
		t.Errorf("P4.2: a Bool of another type was widened: %v", got)
	}
}

func TestMoveOfNoChange(t *testing.T) {
	for _, c := range []api.Change{
		{}, {Kind: 6, Type: "buy", Field: "firm"}, {Kind: -1, Type: "buy"},
		fresh("buy"), fresh("B"),
		add("buy", "price", num(1)), add("buy", "N", num(1)), add("buy", "n", api.Value{}), add("buy", "n", truth(2)), add("zz", "n", num(1)),
		{Kind: api.SAdd, Type: "buy", Field: "n", To: "x", Def: num(1)},
		drop("buy", "zz"), drop("buy", ""), drop("zz", "price"),
		{Kind: api.SDrop, Type: "buy", Field: "price", To: "x"},
		{Kind: api.SDrop, Type: "buy", Field: "price", Def: num(1)},
		rename("buy", "price", "item"), rename("buy", "price", "Q"),
		widen("buy", "price"), widen("buy", "item"), widen("buy", "zz"),
		{Kind: api.SWiden, Type: "buy", Field: "firm", To: "x"},
	} {
		movesTo(t, c, hay(), hay().Vals...)
		movesTo(t, c, oats(), oats().Vals...)
	}
	e := api.Event{Type: "a", Vals: []api.Value{num(1), text(""), truth(1), num(2), text("")}}
	if got := Move(full(), add("a", "u", num(1)), e); !event.Same(got, e) {
		t.Errorf("P4.2: a field too many was added: %v", got)
	}
}

func TestMoveOfNoEvent(t *testing.T) {
	late, early, short, long, odd, mixed, other := hay(), hay(), hay(), hay(), hay(), hay(), hay()
	late.Ts, early.Ts = api.MaxTs+1, -1
	short.Vals, long.Vals = short.Vals[:2], append(long.Vals, num(9))
	odd.Vals[2], mixed.Vals[0], other.Type = truth(2), text("7"), "steal"
	for _, e := range []api.Event{late, early, short, long, odd, mixed, other, {}, {Type: "buy"}} {
		for _, c := range []api.Change{add("buy", "n", num(5)), drop("buy", "price"), rename("buy", "price", "cost"), widen("buy", "firm"), fresh("m"), fresh("steal")} {
			movesTo(t, c, e, e.Vals...)
		}
	}
}

func TestMoveSharesNothing(t *testing.T) {
	for _, c := range some() {
		s, e := roomy(trades()), hay()
		e.Vals = append(e.Vals, num(9), num(9))[:3]
		first, second, want := Move(s, c, e), Move(s, c, e), Move(trades(), c, hay())
		for i := range first.Vals[:cap(first.Vals)] {
			first.Vals[:cap(first.Vals)][i] = text("spoilt")
		}
		if !event.Same(e, hay()) || !slices.Equal(e.Vals[3:5], []api.Value{num(9), num(9)}) {
			t.Errorf("P4.2: Move of %+v: what it answers lies in what it was given: %v", c, e)
		}
		for i := range e.Vals[:5] {
			e.Vals[:5][i] = text("spoilt")
		}
		if !event.Same(second, want) {
			t.Errorf("P4.2: what Move of %+v answered lies in other memory: %v", c, second)
		}
		if !schema.Same(s, trades()) || !roomIsAsItWas(s) {
			t.Errorf("P4.2: Move of %+v changed its schema: %v", c, s)
		}
	}
}

func TestBack(t *testing.T) {
	for _, c := range []struct {
		x           api.Change
		field, want string
		there       bool
	}{
		{rename("buy", "price", "cost"), "cost", "price", true},
		{rename("buy", "price", "cost"), "item", "item", true},
		{rename("buy", "price", "cost"), "price", "price", true},
		{rename("buy", "", ""), "", "", true},
		{add("buy", "n", num(5)), "n", "", false},
		{add("buy", "n", num(5)), "price", "price", true},
		{add("buy", "n", num(5)), "", "", true},
		{drop("buy", "price"), "item", "item", true},
		{drop("buy", "price"), "price", "price", true},
		{widen("buy", "firm"), "firm", "firm", true},
		{widen("buy", "firm"), "price", "price", true},
		{fresh("m"), "price", "price", true},
		{fresh("m"), "m", "m", true},
		{api.Change{}, "price", "price", true},
		{api.Change{Kind: api.SDrop, Field: "price", To: "cost"}, "cost", "cost", true},
		{api.Change{Kind: api.SAdd, Field: "n", To: "cost"}, "cost", "cost", true},
		{api.Change{Kind: 9, Field: "n", To: "cost"}, "n", "n", true},
		{api.Change{Kind: 9, Field: "n", To: "cost"}, "cost", "cost", true},
		{drop("buy", "price"), "\xff not a name", "\xff not a name", true},
	} {
		if got, ok := Back(c.x, c.field); got != c.want || ok != c.there {
			t.Errorf("P4.2: Back(%+v, %q) = %q, %v", c.x, c.field, got, ok)
		}
	}
}

// everyChange of some parts, those that may be and those that may not.
func everyChange() []api.Change {
	var out []api.Change
	for kind := -1; kind <= api.SType+1; kind++ {
		for _, typ := range []string{"", "buy", "idle", "sell", "m", "M"} {
			for _, field := range []string{"", "price", "item", "firm", "n", "N"} {
				for _, to := range []string{"", "price", "cost", "C"} {
					for _, def := range []api.Value{{}, num(5), text("x"), truth(1), truth(2)} {
						out = append(out, api.Change{Kind: kind, Type: typ, Field: field, To: to, Def: def})
					}
				}
			}
		}
	}
	return out
}

// TestOldEventsSuitNewTypes: an old event, moved, is one of the new schema,
// and bears in each of its fields what it bore, or the default.
func TestOldEventsSuitNewTypes(t *testing.T) {
	may := 0
	for _, c := range everyChange() {
		s, err := Apply(trades(), c)
		if !schema.Is(s) || (err != nil) != schema.Same(s, trades()) {
			t.Errorf("P4.1: Apply(%+v) = %v, %v", c, s, err)
		}
		if err == nil {
			may++
		}
		for _, e := range []api.Event{hay(), oats(), {Type: "idle"}} {
			got := Move(trades(), c, e)
			if err := event.Is(s, got); err != nil || got.Ts != e.Ts {
				t.Errorf("P4.3: %+v: an old event isn't one of the new type: %v: %v", c, got, err)
			}
			if err != nil || e.Type != c.Type {
				if !event.Same(got, e) {
					t.Errorf("P4.2: Move(%+v, %v) = %v", c, e, got)
				}
				continue
			}
			bearsWhatItBore(t, s, c, e, got)
		}
	}
	// Of buy, idle and sell: adds of 3 values each, drops, renames (to cost, as
	// price is there), widenings; and a type.
	if want := (1*3 + 3 + 3 + 1) + 4*3 + (2*3 + 2 + 2) + 1; may != want {
		t.Errorf("P4.1: %d changes may be, want %d", may, want)
	}
}

func bearsWhatItBore(t *testing.T, s api.Schema, c api.Change, was, is api.Event) {
	t.Helper()
	typ, _ := schema.Find(s, is.Type)
	for _, f := range typ.Fields {
		want := c.Def
		if elder, there := Back(c, f.Name); there {
			want, _ = event.Get(trades(), was, elder)
		}
		want.Kind = f.Kind
		if got, ok := event.Get(s, is, f.Name); !ok || !value.Same(got, want) {
			t.Errorf("P4.3: %+v: %q bears %v, not %v", c, f.Name, got, want)
		}
	}
}

func TestChangesOneBehindTheOther(t *testing.T) {
	s, e := trades(), hay()
	for _, c := range []api.Change{
		fresh("ask"), rename("buy", "firm", "sure"), widen("buy", "sure"), add("buy", "firm", text("new")), drop("buy", "price"), add("ask", "n", num(1)), rename("buy", "item", "price"),
	} {
		next, err := Apply(s, c)
		if err != nil {
			t.Fatalf("P4.3: %+v: %v", c, err)
		}
		s, e = next, Move(s, c, e)
	}
	if want := "ask n:int, buy price:str sure:int firm:str, idle, sell item:str price:int"; !schema.Same(s, read(want)) {
		t.Errorf("P4.3: the new types: %v", s)
	}
	if want := []api.Value{text("hay"), num(1), text("new")}; !slices.Equal(e.Vals, want) || event.Is(s, e) != nil {
		t.Errorf("P4.3: the old event: %v", e)
	}
}

// TestNoPanic: of what is no schema nothing is promised but that calls answer
// and leave it as it was.
func TestNoPanic(t *testing.T) {
	odd := func() api.Schema {
		return api.Schema{Types: []api.Type{
			{Name: "sell"},
			{Name: "", Fields: []api.Field{{}}},
			{Name: "buy", Fields: []api.Field{{Name: "firm", Kind: api.Bool}, {Name: "firm", Kind: 9}}},
			{Name: "buy", Fields: slices.Repeat([]api.Field{{Name: "price", Kind: -1}}, 9)},
			{Name: "idle"}, {Name: "idle"}, {Name: "idle"},
		}}
	}
	s := odd()
	for _, c := range everyChange() {
		Apply(s, c)
		for _, e := range []api.Event{hay(), oats(), {}, {Type: "buy", Vals: []api.Value{truth(1), truth(1)}}, {Vals: []api.Value{{}}}} {
			Move(s, c, e)
		}
	}
	if !schema.Same(s, odd()) {
		t.Errorf("P4.1: what is no schema was changed: %v", s)
	}
}

func TestWalksMayBeLeftAndGoneThroughAgain(t *testing.T) {
	for _, c := range some() {
		if refusal(trades(), c) != nil {
			continue
		}
		want, _ := Apply(trades(), c)
		walk := types(trades(), c)
		for n := range len(want.Types) + 1 {
			var got api.Schema
			for typ := range walk {
				if len(got.Types) == n {
					break
				}
				got.Types = append(got.Types, typ)
				for range walk {
					break
				}
			}
			if !schema.Same(got, api.Schema{Types: want.Types[:n]}) {
				t.Errorf("P4.1: %+v, left behind %d types: %v", c, n, got)
			}
		}
		for _, typ := range trades().Types {
			leaveFields(t, typ, c, want)
		}
	}
}

func leaveFields(t *testing.T, typ api.Type, c api.Change, s api.Schema) {
	t.Helper()
	want, _ := schema.Find(s, typ.Name)
	walk := fields(typ, c)
	for n := range len(want.Fields) + 1 {
		var got []api.Field
		for _, f := range walk {
			if len(got) == n {
				break
			}
			got = append(got, f)
			for range walk {
				break
			}
		}
		if !slices.Equal(got, want.Fields[:n]) {
			t.Errorf("P4.1: %+v, left behind %d fields of %q: %v", c, n, typ.Name, got)
		}
	}
}
