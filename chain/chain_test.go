package chain

import (
	"errors"
	"math"
	"slices"
	"strings"
	"testing"

	"pastern/api"
	"pastern/event"
	"pastern/evolve"
	"pastern/schema"
	"pastern/value"
)

func num(n int64) api.Value { return api.Value{Kind: api.Int, N: n} }

func text(s string) api.Value { return api.Value{Kind: api.Str, S: s} }

func truth(n int64) api.Value { return api.Value{Kind: api.Bool, N: n} }

func add(typ, field string, def api.Value) api.Change {
	return api.Change{Kind: api.SAdd, Type: typ, Field: field, Def: def}
}

func drop(typ, field string) api.Change {
	return api.Change{Kind: api.SDrop, Type: typ, Field: field}
}

func rename(typ, field, to string) api.Change {
	return api.Change{Kind: api.SRename, Type: typ, Field: field, To: to}
}

func widen(typ, field string) api.Change {
	return api.Change{Kind: api.SWiden, Type: typ, Field: field}
}

func fresh(typ string) api.Change { return api.Change{Kind: api.SType, Type: typ} }

// trades: a type with a field of each kind, one with none, one whose fields
// bear names of the first one's at other places.
func trades() api.Schema {
	return read("buy price:int item:str firm:bool, idle, sell item:str price:int firm:bool")
}

func hay() api.Event {
	return api.Event{Type: "buy", Ts: 5, Vals: []api.Value{num(7), text("hay"), truth(1)}}
}

func oats() api.Event {
	return api.Event{Type: "sell", Ts: 6, Vals: []api.Value{text("oats"), num(3), truth(0)}}
}

// read makes a schema of a text, so that what a test wants is seen at once.
func read(s string) api.Schema {
	var out api.Schema
	for part := range strings.SplitSeq(s, ", ") {
		words := strings.Fields(part)
		t := api.Type{Name: words[0]}
		for _, w := range words[1:] {
			name, kind, _ := strings.Cut(w, ":")
			t.Fields = append(t.Fields, api.Field{Name: name, Kind: slices.Index([]string{"", "int", "str", "bool"}, kind)})
		}
		out.Types = append(out.Types, t)
	}
	return out
}

// history: changes of each kind, of two types that are there and of one that
// comes; names go from field to field, and come back.
func history() []api.Change {
	return []api.Change{
		rename("buy", "firm", "sure"),
		fresh("ask"),
		widen("buy", "sure"),
		add("buy", "firm", text("new")),
		drop("sell", "price"),
		add("ask", "n", num(1)),
		drop("buy", "price"),
		rename("buy", "item", "price"),
		add("sell", "price", truth(1)),
	}
}

// versions: what history makes of trades, from version 0 on.
func versions() []api.Schema {
	const buy, idle, sell = "buy price:int item:str firm:bool, ", "idle, ", "sell item:str price:int firm:bool"
	var out []api.Schema
	for _, s := range []string{
		buy + idle + sell,
		"buy price:int item:str sure:bool, " + idle + sell,
		"ask, buy price:int item:str sure:bool, " + idle + sell,
		"ask, buy price:int item:str sure:int, " + idle + sell,
		"ask, buy price:int item:str sure:int firm:str, " + idle + sell,
		"ask, buy price:int item:str sure:int firm:str, " + idle + "sell item:str firm:bool",
		"ask n:int, buy price:int item:str sure:int firm:str, " + idle + "sell item:str firm:bool",
		"ask n:int, buy item:str sure:int firm:str, " + idle + "sell item:str firm:bool",
		"ask n:int, buy price:str sure:int firm:str, " + idle + "sell item:str firm:bool",
		"ask n:int, buy price:str sure:int firm:str, " + idle + "sell item:str firm:bool price:bool",
	} {
		out = append(out, read(s))
	}
	return out
}

func made(t *testing.T, s api.Schema, l ...api.Change) *Chain {
	t.Helper()
	c, err := New(s, l...)
	if err != nil || c == nil {
		t.Fatalf("P5.1: New(%v, %+v) = %v, %v", s, l, c, err)
	}
	return c
}

// long: a chain of as many changes as there may be.
func long(t *testing.T) *Chain {
	t.Helper()
	return made(t, trades(), turns(api.MaxSteps)...)
}

// turns: so many changes, a name that goes to and fro.
func turns(n int) []api.Change {
	var out []api.Change
	for i := range n {
		x := rename("sell", "item", "thing")
		if i%2 == 1 {
			x = rename("sell", "thing", "item")
		}
		out = append(out, x)
	}
	return out
}

// isJust: that number, and no other.
func isJust(err error, want api.Errno) bool {
	var number api.Errno
	return errors.As(err, &number) && number == want && errors.Is(err, want)
}

// isOf tells whether a chain is one of these versions and these changes.
func isOf(t *testing.T, c *Chain, schemas []api.Schema, changes []api.Change) {
	t.Helper()
	if c.Now() != len(changes) || !slices.Equal(c.Changes(), changes) {
		t.Errorf("P5.1: Now() = %d, Changes() = %+v, want %+v", c.Now(), c.Changes(), changes)
	}
	for v, want := range schemas {
		if got, ok := c.At(v); !ok || !schema.Same(got, want) {
			t.Errorf("P5.1: At(%d) = %v, %v, want %v", v, got, ok, want)
		}
	}
	for _, v := range []int{math.MinInt, -len(schemas), -1, len(schemas), len(schemas) + 1, api.MaxSteps + 1, math.MaxInt} {
		if got, ok := c.At(v); ok || got.Types != nil {
			t.Errorf("P5.1: At(%d) = %v, %v", v, got, ok)
		}
	}
}

func TestNoChanges(t *testing.T) {
	isOf(t, made(t, trades()), versions()[:1], nil)
	isOf(t, made(t, trades(), []api.Change{}...), versions()[:1], nil)
	for _, none := range []api.Schema{{}, {Types: []api.Type{}}} {
		isOf(t, made(t, none), []api.Schema{{}}, nil)
		isOf(t, made(t, none, fresh("a")), []api.Schema{{}, read("a")}, []api.Change{fresh("a")})
	}
}

func TestVersionsByNew(t *testing.T) {
	for n := range len(history()) + 1 {
		isOf(t, made(t, trades(), history()[:n]...), versions()[:n+1], history()[:n])
	}
}

func TestVersionsByAdd(t *testing.T) {
	c := made(t, trades())
	for n, x := range history() {
		if err := c.Add(x); err != nil {
			t.Fatalf("P5.1: Add(%+v): %v", x, err)
		}
		isOf(t, c, versions()[:n+2], history()[:n+1])
	}
	half := made(t, trades(), history()[:4]...)
	for _, x := range history()[4:] {
		if err := half.Add(x); err != nil {
			t.Fatalf("P5.1: Add(%+v): %v", x, err)
		}
	}
	isOf(t, half, versions(), history())
}

func refusedNew(t *testing.T, want api.Errno, s api.Schema, l ...api.Change) {
	t.Helper()
	if c, err := New(s, l...); c != nil || !isJust(err, want) {
		t.Errorf("P5.1: New(%v, %+v) = %v, %v, want %v", s, l, c, err, want)
	}
}

func TestNewOfNoSchema(t *testing.T) {
	for _, s := range []api.Schema{
		read("Buy"), read("buy, buy"), read("sell, buy"), read("a, b, c, d, e, f"), read("a x:no"), read("a x:int x:str"),
		read("a u:int v:int w:int x:int y:int z:int"), read("a X:int"), {Types: []api.Type{{}}},
	} {
		refusedNew(t, api.ErrForm, s)
		refusedNew(t, api.ErrForm, s, fresh("m"))
		// The schema outweighs what the changes would be refused for.
		refusedNew(t, api.ErrForm, s, drop("zz", "x"))
		refusedNew(t, api.ErrForm, s, turns(api.MaxSteps+1)...)
	}
}

func TestNewOfRefusedChanges(t *testing.T) {
	for _, x := range refusals() {
		refusedNew(t, x.want, versions()[0], x.change)
		refusedNew(t, x.want, trades(), append(turns(4), x.change)...)
		refusedNew(t, x.want, trades(), append([]api.Change{x.change}, history()...)...)
		// The first error counts, whatever comes behind.
		for _, y := range refusals() {
			refusedNew(t, x.want, trades(), x.change, y.change)
			refusedNew(t, x.want, trades(), fresh("m"), x.change, fresh("n"), y.change)
		}
		refusedNew(t, x.want, trades(), append(append(turns(api.MaxSteps-1), x.change), turns(9)...)...)
		refusedNew(t, api.ErrLarge, trades(), append(turns(api.MaxSteps), x.change)...)
	}
	refusedNew(t, api.ErrLarge, trades(), turns(api.MaxSteps+1)...)
	refusedNew(t, api.ErrLarge, trades(), turns(3*api.MaxSteps)...)
	refusedNew(t, api.ErrLarge, read("a, b, c, d"), fresh("e"), fresh("f"))
	made(t, trades(), turns(api.MaxSteps)...)
}

type refusal struct {
	change api.Change
	want   api.Errno
}

// refusals: changes that trades doesn't take, nor trades with another type or
// with other names in sell.
func refusals() []refusal {
	return []refusal{
		{api.Change{}, api.ErrForm},
		{api.Change{Kind: 6, Type: "buy"}, api.ErrForm},
		{fresh("M"), api.ErrForm},
		{api.Change{Kind: api.SDrop, Type: "buy", Field: "price", To: "x"}, api.ErrForm},
		{add("buy", "n", truth(2)), api.ErrForm},
		{fresh("buy"), api.ErrName},
		{add("buy", "price", num(1)), api.ErrName},
		{drop("zz", "price"), api.ErrName},
		{rename("buy", "price", "price"), api.ErrName},
		{widen("buy", "zz"), api.ErrName},
		{widen("buy", "price"), api.ErrKind},
	}
}

// TestAddRefused: evolve's errors, each behind which the chain is as it was
// and takes what it would have taken.
func TestAddRefused(t *testing.T) {
	c := made(t, trades())
	for _, x := range refusals() {
		if err := c.Add(x.change); !isJust(err, x.want) {
			t.Errorf("P5.1: Add(%+v): %v, want %v", x.change, err, x.want)
		}
		isOf(t, c, versions()[:1], nil)
	}
	for n, x := range history() {
		for _, y := range []refusal{
			{api.Change{}, api.ErrForm}, {fresh("buy"), api.ErrName}, {drop("zz", "price"), api.ErrName}, {widen("sell", "item"), api.ErrKind},
		} {
			if err := c.Add(y.change); !isJust(err, y.want) {
				t.Errorf("P5.1: Add(%+v): %v, want %v", y.change, err, y.want)
			}
		}
		isOf(t, c, versions()[:n+1], history()[:n])
		if err := c.Add(x); err != nil {
			t.Fatalf("P5.1: Add(%+v) behind refused ones: %v", x, err)
		}
	}
}

// TestAddLooksAtTheLastVersion: what an elder version would take, the last one
// need not, and the other way round.
func TestAddLooksAtTheLastVersion(t *testing.T) {
	c := made(t, trades(), history()...)
	for _, x := range []refusal{
		{rename("buy", "firm", "sure"), api.ErrName}, {widen("buy", "sure"), api.ErrKind}, {widen("buy", "firm"), api.ErrKind},
		{fresh("ask"), api.ErrName}, {drop("buy", "item"), api.ErrName}, {add("sell", "price", num(1)), api.ErrName},
	} {
		if err := c.Add(x.change); !isJust(err, x.want) {
			t.Errorf("P5.1: Add(%+v): %v, want %v", x.change, err, x.want)
		}
	}
	for _, x := range []api.Change{widen("sell", "price"), drop("ask", "n"), rename("buy", "price", "item"), add("ask", "n", text("")), fresh("bid")} {
		if err := c.Add(x); err != nil {
			t.Errorf("P5.1: Add(%+v): %v", x, err)
		}
	}
	for typ, want := range map[string]error{"zz": api.ErrLarge, "bid": api.ErrName} {
		if err := c.Add(fresh(typ)); err != want {
			t.Errorf("P5.1: Add of type %s too many: %v", typ, err)
		}
	}
}

func TestAddOfTooMany(t *testing.T) {
	c := made(t, trades(), turns(api.MaxSteps-1)...)
	if err := c.Add(fresh("m")); err != nil || c.Now() != api.MaxSteps {
		t.Fatalf("P5.1: the last change that there may be: %v, Now() = %d", err, c.Now())
	}
	changes := append(turns(api.MaxSteps-1), fresh("m"))
	for _, x := range []api.Change{fresh("n"), fresh("m"), {}, drop("zz", "x"), widen("buy", "price"), add("buy", "n", num(1)), turns(1)[0]} {
		if err := c.Add(x); !isJust(err, api.ErrLarge) {
			t.Errorf("P5.1: Add(%+v) of one too many: %v", x, err)
		}
	}
	if last, ok := c.At(api.MaxSteps); !ok || !schema.Same(last, read("buy price:int item:str firm:bool, idle, m, sell thing:str price:int firm:bool")) {
		t.Errorf("P5.1: the last version: %v, %v", last, ok)
	}
	if _, ok := c.At(api.MaxSteps + 1); ok || !slices.Equal(c.Changes(), changes) {
		t.Errorf("P5.1: what was refused is there: %+v", c.Changes())
	}
}

func movesTo(t *testing.T, c *Chain, e api.Event, from, to int, want ...api.Value) {
	t.Helper()
	got, err := c.Move(e, from, to)
	if err != nil || !event.Same(got, api.Event{Type: e.Type, Ts: e.Ts, Vals: want}) {
		t.Errorf("P5.2: Move(%v, %d, %d) = %v, %v, want %v", e, from, to, got, err, want)
	}
}

func TestMove(t *testing.T) {
	c := made(t, trades(), history()...)
	for to, want := range [][]api.Value{
		hay().Vals, hay().Vals, hay().Vals,
		{num(7), text("hay"), num(1)},
		{num(7), text("hay"), num(1), text("new")},
		{num(7), text("hay"), num(1), text("new")},
		{num(7), text("hay"), num(1), text("new")},
		{text("hay"), num(1), text("new")},
		{text("hay"), num(1), text("new")},
		{text("hay"), num(1), text("new")},
	} {
		movesTo(t, c, hay(), 0, to, want...)
	}
	for to := range 5 {
		movesTo(t, c, oats(), 0, to, oats().Vals...)
		movesTo(t, c, oats(), to, 4, oats().Vals...)
		movesTo(t, c, oats(), to, 8, text("oats"), truth(0))
		movesTo(t, c, oats(), to, 9, text("oats"), truth(0), truth(1))
	}
	movesTo(t, c, api.Event{Type: "idle", Ts: api.MaxTs}, 0, 9)
	movesTo(t, c, api.Event{Type: "ask"}, 2, 2)
	movesTo(t, c, api.Event{Type: "ask"}, 2, 5)
	movesTo(t, c, api.Event{Type: "ask", Ts: 1}, 5, 6, num(1))
	movesTo(t, c, api.Event{Type: "ask", Vals: []api.Value{num(8)}}, 6, 9, num(8))
	movesTo(t, long(t), oats(), 0, api.MaxSteps, oats().Vals...)
	movesTo(t, long(t), oats(), api.MaxSteps, api.MaxSteps, oats().Vals...)
	movesTo(t, made(t, trades()), hay(), 0, 0, hay().Vals...)
}

func refusedMove(t *testing.T, c *Chain, e api.Event, from, to int, want api.Errno) {
	t.Helper()
	got, err := c.Move(e, from, to)
	if !isJust(err, want) || got.Type != "" || got.Ts != 0 || len(got.Vals) != 0 {
		t.Errorf("P5.2: Move(%v, %d, %d) = %v, %v, want %v", e, from, to, got, err, want)
	}
}

// noSpans: pairs of which one isn't a version up to last, or which fall.
func noSpans(last int) [][2]int {
	out := [][2]int{{1, 0}, {last, last - 1}, {last, 0}}
	for _, v := range []int{math.MinInt, -1, last + 1, api.MaxSteps + 1, math.MaxInt} {
		out = append(out, [2]int{v, 0}, [2]int{v, last}, [2]int{0, v}, [2]int{last, v}, [2]int{v, v})
	}
	return append(out, [2]int{-1, last + 1}, [2]int{math.MaxInt, math.MinInt}, [2]int{math.MinInt, math.MaxInt})
}

// TestMoveOfNoVersion: it outweighs an event that is none.
func TestMoveOfNoVersion(t *testing.T) {
	c := made(t, trades(), history()...)
	for _, x := range noSpans(9) {
		for _, e := range []api.Event{hay(), oats(), {}, {Type: "buy"}, {Type: "idle", Ts: -1}} {
			refusedMove(t, c, e, x[0], x[1], api.ErrNone)
		}
	}
	refusedMove(t, made(t, trades()), hay(), 0, 1, api.ErrNone)
	refusedMove(t, made(t, trades()), hay(), 1, 1, api.ErrNone)
	refusedMove(t, long(t), hay(), 0, api.MaxSteps+1, api.ErrNone)
}

func TestMoveOfNoEvent(t *testing.T) {
	c := made(t, trades(), history()...)
	late, early, short, long, odd, mixed := hay(), hay(), hay(), hay(), hay(), hay()
	late.Ts, early.Ts = api.MaxTs+1, -1
	short.Vals, long.Vals = short.Vals[:2], append(long.Vals, num(9))
	odd.Vals[2], mixed.Vals[0] = truth(2), text("7")
	for to := range 10 {
		for _, e := range []api.Event{late, early, short, long, odd} {
			refusedMove(t, c, e, 0, to, api.ErrForm)
		}
		refusedMove(t, c, mixed, 0, to, api.ErrKind)
		refusedMove(t, c, api.Event{}, 0, to, api.ErrName)
		refusedMove(t, c, api.Event{Type: "zz", Ts: -1}, 0, to, api.ErrName)
		// A type that comes later isn't there yet.
		refusedMove(t, c, api.Event{Type: "ask"}, 0, to, api.ErrName)
	}
	// The schema asked is from's: neither the first one nor to's.
	refusedMove(t, c, hay(), 3, 9, api.ErrKind)
	refusedMove(t, c, hay(), 4, 4, api.ErrForm)
	refusedMove(t, c, hay(), 7, 9, api.ErrKind)
	refusedMove(t, c, oats(), 5, 9, api.ErrForm)
	refusedMove(t, c, api.Event{Type: "sell", Vals: []api.Value{text("oats"), truth(0), truth(1)}}, 0, 9, api.ErrKind)
}

func TestBack(t *testing.T) {
	c := made(t, trades(), history()...)
	for _, x := range []struct {
		typ, field string
		from, to   int
		want       string
	}{
		{"buy", "price", 0, 0, "price"}, {"buy", "firm", 0, 0, "firm"},
		{"buy", "sure", 0, 1, "firm"}, {"buy", "sure", 0, 9, "firm"}, {"buy", "sure", 1, 9, "sure"}, {"buy", "sure", 9, 9, "sure"},
		// A name that another field bore: the field counts, not the name.
		{"buy", "firm", 0, 4, ""}, {"buy", "firm", 0, 9, ""}, {"buy", "firm", 3, 9, ""}, {"buy", "firm", 4, 9, "firm"},
		{"buy", "price", 0, 6, "price"}, {"buy", "price", 0, 8, "item"}, {"buy", "price", 7, 9, "item"}, {"buy", "price", 8, 9, "price"},
		{"sell", "price", 0, 4, "price"}, {"sell", "price", 0, 9, ""}, {"sell", "price", 8, 9, ""}, {"sell", "price", 9, 9, "price"},
		// Not in to, though in from.
		{"buy", "firm", 0, 1, ""}, {"buy", "firm", 0, 3, ""}, {"buy", "item", 0, 8, ""}, {"buy", "price", 0, 7, ""}, {"sell", "price", 4, 5, ""},
		// Changes of other types pass over it.
		{"sell", "firm", 0, 9, "firm"}, {"sell", "item", 0, 9, "item"},
		{"ask", "n", 0, 9, ""}, {"ask", "n", 2, 9, ""}, {"ask", "n", 5, 6, ""}, {"ask", "n", 6, 9, "n"}, {"ask", "n", 0, 5, ""},
		{"idle", "n", 0, 9, ""}, {"zz", "price", 0, 9, ""}, {"", "price", 0, 0, ""}, {"buy", "", 0, 9, ""}, {"buy", "zz", 0, 0, ""},
		{"buy", "\xff", 0, 9, ""}, {"BUY", "sure", 0, 9, ""}, {"ask", "", 0, 1, ""}, {"ask", "n", 0, 1, ""},
	} {
		if got, ok := c.Back(x.typ, x.field, x.from, x.to); got != x.want || ok != (x.want != "") {
			t.Errorf("P5.2: Back(%q, %q, %d, %d) = %q, %v, want %q", x.typ, x.field, x.from, x.to, got, ok, x.want)
		}
	}
	for _, x := range noSpans(9) {
		if got, ok := c.Back("sell", "item", x[0], x[1]); got != "" || ok {
			t.Errorf("P5.2: Back from %d to %d = %q, %v", x[0], x[1], got, ok)
		}
	}
}

// TestBackLastFirst: names that go round come back in their order only.
func TestBackLastFirst(t *testing.T) {
	c := made(t, read("a x:int y:int, b x:int y:int"),
		rename("a", "x", "z"), rename("b", "x", "w"), rename("a", "y", "x"), rename("a", "z", "y"), rename("b", "w", "z"))
	for _, x := range [][3]string{{"a", "x", "y"}, {"a", "y", "x"}, {"b", "z", "x"}, {"b", "y", "y"}} {
		if got, ok := c.Back(x[0], x[1], 0, 5); got != x[2] || !ok {
			t.Errorf("P5.2: Back(%q, %q, 0, 5) = %q, %v", x[0], x[1], got, ok)
		}
	}
	for v := range api.MaxSteps + 1 {
		name := []string{"item", "thing"}[v%2]
		if got, ok := long(t).Back("sell", "item", v, api.MaxSteps); got != name || !ok {
			t.Errorf("P5.2: Back(sell, item, %d, %d) = %q, %v", v, api.MaxSteps, got, ok)
		}
	}
}

// zeros: an event of each type, whose values tell their places.
func zeros(s api.Schema) []api.Event {
	var out []api.Event
	for _, t := range s.Types {
		e := api.Event{Type: t.Name, Ts: len(t.Fields)}
		for i, f := range t.Fields {
			v := value.Zero(f.Kind)
			switch f.Kind {
			case api.Int:
				v.N = int64(100 + i)
			case api.Str:
				v.S = strings.Repeat("s", 1+i)
			case api.Bool:
				v.N = int64(i % 2)
			}
			e.Vals = append(e.Vals, v)
		}
		out = append(out, e)
	}
	return out
}

// draw: numbers that look drawn by lot, the same each time.
type draw uint64

func (d *draw) below(n int) int {
	*d = *d*6364136223846793005 + 1442695040888963407
	return int(uint64(*d>>33) % uint64(n))
}

func (d *draw) of(l ...string) string { return l[d.below(len(l))] }

func (d *draw) change() api.Change {
	typ, field, to := d.of("a", "b", "c"), d.of("x", "y", "z"), d.of("x", "y", "z", "w")
	switch d.below(8) {
	case 0, 1:
		return add(typ, field, []api.Value{num(1), text("d"), truth(1)}[d.below(3)])
	case 2:
		return drop(typ, field)
	case 3, 4, 5:
		return rename(typ, field, to)
	case 6:
		return widen(typ, field)
	}
	return fresh(typ)
}

// TestOneHistory: along many histories, a chain has just what evolve makes of
// its schema, change by change; and it doesn't matter in how many steps an
// event, or a name, goes its way.
func TestOneHistory(t *testing.T) {
	taken := 0
	for seed := range 25 {
		d := draw(seed)
		s := read("a x:bool y:int, b x:str")
		c, schemas := made(t, s), []api.Schema{s}
		var changes []api.Change
		for range 60 {
			x := d.change()
			next, err := evolve.Apply(s, x)
			if len(changes) == api.MaxSteps {
				err = api.ErrLarge
			}
			if got := c.Add(x); got != err {
				t.Fatalf("P5.1: Add(%+v) to %v: %v, want %v", x, s, got, err)
			}
			if err == nil {
				s, schemas, changes = next, append(schemas, next), append(changes, x)
			}
		}
		taken += len(changes)
		isOf(t, c, schemas, changes)
		isOf(t, made(t, schemas[0], c.Changes()...), schemas, changes)
		for from := range schemas {
			for to := from; to < len(schemas); to++ {
				goesAlong(t, c, schemas, changes, from, to)
			}
		}
	}
	if taken < 25*10 {
		t.Errorf("P5.3: only %d changes were tried", taken)
	}
}

func goesAlong(t *testing.T, c *Chain, schemas []api.Schema, changes []api.Change, from, to int) {
	t.Helper()
	for _, e := range zeros(schemas[from]) {
		want := e
		for v := from; v < to; v++ {
			want = evolve.Move(schemas[v], changes[v], want)
		}
		got, err := c.Move(e, from, to)
		if err != nil || !event.Same(got, want) {
			t.Fatalf("P5.2: %+v: Move(%v, %d, %d) = %v, %v, want %v", changes, e, from, to, got, err, want)
		}
		half, _ := c.Move(e, from, (from+to)/2)
		again, err := c.Move(half, (from+to)/2, to)
		if err != nil || !event.Same(again, want) || event.Is(schemas[to], got) != nil {
			t.Fatalf("P5.3: %+v: %v from %d to %d, by the half: %v, %v, want %v", changes, e, from, to, again, err, want)
		}
		bearsWhatItBore(t, c, schemas, e, got, from, to)
	}
}

// bearsWhatItBore: in each field that was there what the field bore, whatever
// it was called.
func bearsWhatItBore(t *testing.T, c *Chain, schemas []api.Schema, was, is api.Event, from, to int) {
	t.Helper()
	typ, _ := schema.Find(schemas[to], is.Type)
	for _, f := range typ.Fields {
		half, there := c.Back(is.Type, f.Name, (from+to)/2, to)
		if there {
			half, there = c.Back(is.Type, half, from, (from+to)/2)
		}
		elder, ok := c.Back(is.Type, f.Name, from, to)
		if elder != half || ok != there {
			t.Fatalf("P5.3: %+v: %s.%s from %d to %d: %q, %v, by the half %q, %v", c.Changes(), is.Type, f.Name, from, to, elder, ok, half, there)
		}
		if !ok {
			continue
		}
		want, had := event.Get(schemas[from], was, elder)
		want.Kind = f.Kind
		if got, _ := event.Get(schemas[to], is, f.Name); !had || !value.Same(got, want) {
			t.Fatalf("P5.3: %+v: %s.%s from %d to %d bears %v, not %v", c.Changes(), is.Type, f.Name, from, to, got, want)
		}
	}
}

// spoil writes over all of a schema, its spare room included.
func spoil(s api.Schema) {
	for _, t := range s.Types[:cap(s.Types)] {
		for i := range t.Fields[:cap(t.Fields)] {
			t.Fields[:cap(t.Fields)][i] = api.Field{Name: "spoilt"}
		}
	}
	for i := range s.Types[:cap(s.Types)] {
		s.Types[:cap(s.Types)][i] = api.Type{Name: "spoilt"}
	}
}

func spoilChanges(l []api.Change) {
	for i := range l[:cap(l)] {
		l[:cap(l)][i] = fresh("spoilt")
	}
}

func spoilVals(l []api.Value) {
	for i := range l[:cap(l)] {
		l[:cap(l)][i] = text("spoilt")
	}
}

// TestNewKeepsNothing: what was handed in may be written over, the room behind
// it too, and New and Add write to none of it.
func TestNewKeepsNothing(t *testing.T) {
	s, l := trades(), append(history(), fresh("room"), fresh("room"))[:4]
	s.Types = append(s.Types, api.Type{Name: "room"})[:3]
	for i, typ := range s.Types {
		s.Types[i].Fields = append(typ.Fields, api.Field{Name: "room"})[:len(typ.Fields)]
	}
	c := made(t, s, l...)
	if err := c.Add(history()[4]); err != nil {
		t.Fatalf("P5.1: Add: %v", err)
	}
	if !schema.Same(s, trades()) || s.Types[:4][3].Name != "room" || !slices.Equal(l[:9], history()) || l[:11][10] != fresh("room") {
		t.Errorf("P5.1: New changed what it was given: %v, %+v", s, l[:11])
	}
	for _, typ := range s.Types {
		if typ.Fields[:len(typ.Fields)+1][len(typ.Fields)].Name != "room" {
			t.Errorf("P5.1: New wrote behind the fields of %q", typ.Name)
		}
	}
	spoil(s)
	spoilChanges(l)
	isOf(t, c, versions()[:6], history()[:5])
}

func TestAnswersShareNothing(t *testing.T) {
	c := made(t, trades(), history()[:8]...)
	list := c.Changes()
	for v := range 9 {
		other, _ := c.At(v)
		got, _ := c.At(v)
		for i, typ := range got.Types {
			if !slices.Equal(typ.Fields, versions()[v].Types[i].Fields) {
				t.Errorf("P5.1: At(%d): type %d shares fields with one ahead of it", v, i)
			}
			spoil(api.Schema{Types: []api.Type{typ}})
		}
		spoil(got)
		spoilChanges(c.Changes())
		if !schema.Same(other, versions()[v]) || !slices.Equal(list, history()[:8]) {
			t.Errorf("P5.1: two answers share memory: %v, %+v", other, list)
		}
		isOf(t, c, versions()[:9], history()[:8])
	}
	if err := c.Add(history()[8]); err != nil {
		t.Fatalf("P5.1: Add behind answers that were written over: %v", err)
	}
	isOf(t, c, versions(), history())
	if !slices.Equal(list[:cap(list)][:8], history()[:8]) {
		t.Errorf("P5.1: Add touched an earlier answer: %+v", list)
	}
}

func TestMoveSharesNothing(t *testing.T) {
	c := made(t, trades(), history()...)
	for to := range 10 {
		e := hay()
		e.Vals = append(e.Vals, num(9), num(9))[:3]
		first, _ := c.Move(e, 0, to)
		second, _ := c.Move(e, 0, to)
		want, _ := c.Move(hay(), 0, to)
		spoilVals(first.Vals)
		if !event.Same(e, hay()) || !slices.Equal(e.Vals[3:5], []api.Value{num(9), num(9)}) {
			t.Errorf("P5.2: Move to %d: what it answers lies in what it was given: %v", to, e.Vals[:5])
		}
		spoilVals(e.Vals)
		if !event.Same(second, want) {
			t.Errorf("P5.2: what Move to %d answered lies in other memory: %v", to, second)
		}
	}
	isOf(t, c, versions(), history())
}

// TestChainsStandAlone: chains of the same beginnings don't touch each other,
// not even one that is a copy of another one's parts.
func TestChainsStandAlone(t *testing.T) {
	one := made(t, trades(), history()[:5]...)
	two := made(t, trades(), history()[:5]...)
	three := *one
	chains := []*Chain{one, two, &three}
	last := []api.Change{fresh("m"), fresh("n"), fresh("o")}
	for i, c := range chains {
		if err := c.Add(last[i]); err != nil {
			t.Fatalf("P5.1: Add: %v", err)
		}
	}
	for i, c := range chains {
		next, _ := evolve.Apply(versions()[5], last[i])
		isOf(t, c, append(versions()[:6], next), append(history()[:5], last[i]))
	}
}

func TestWalksMayBeLeftAndGoneThroughAgain(t *testing.T) {
	c := made(t, trades(), history()...)
	walk := c.versions()
	for n := range len(versions()) + 1 {
		var got []api.Schema
		for v, s := range walk {
			if len(got) == n {
				break
			}
			if v != len(got) {
				t.Errorf("P5.1: version %d stands at %d", v, len(got))
			}
			got = append(got, s)
			for range walk {
				break
			}
		}
		if !slices.EqualFunc(got, versions()[:n], schema.Same) {
			t.Errorf("P5.1: left behind %d versions: %v", n, got)
		}
	}
	for from := range 10 {
		for to := from; to < 10; to++ {
			leaveSteps(t, c, from, to)
		}
	}
}

func leaveSteps(t *testing.T, c *Chain, from, to int) {
	t.Helper()
	walk := c.steps(from, to)
	for n := range to - from + 1 {
		var got []api.Change
		for s, x := range walk {
			if len(got) == n {
				break
			}
			if !schema.Same(s, versions()[from+len(got)]) {
				t.Errorf("P5.2: change %d stands at another schema: %v", from+len(got), s)
			}
			got = append(got, x)
			for range walk {
				break
			}
		}
		if !slices.Equal(got, history()[from:from+n]) {
			t.Errorf("P5.2: from %d to %d, left behind %d: %+v", from, to, n, got)
		}
	}
}
