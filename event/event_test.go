package event

import (
	"errors"
	"math"
	"slices"
	"strings"
	"testing"

	"pastern/api"
	"pastern/schema"
)

func num(n int64) api.Value { return api.Value{Kind: api.Int, N: n} }

func text(s string) api.Value { return api.Value{Kind: api.Str, S: s} }

func truth(n int64) api.Value { return api.Value{Kind: api.Bool, N: n} }

func of(typ string, ts int, vals ...api.Value) api.Event {
	return api.Event{Type: typ, Ts: ts, Vals: vals}
}

// trades: a type with a field of each kind, one with none, one whose fields
// bear names of the first one's at other places.
func trades() api.Schema {
	return api.Schema{Types: []api.Type{
		{Name: "buy", Fields: []api.Field{{Name: "price", Kind: api.Int}, {Name: "item", Kind: api.Str}, {Name: "firm", Kind: api.Bool}}},
		{Name: "idle"},
		{Name: "sell", Fields: []api.Field{{Name: "item", Kind: api.Str}, {Name: "price", Kind: api.Int}}},
	}}
}

func hay() api.Event { return of("buy", 5, num(7), text("hay"), truth(1)) }

// equal holds events against each other without asking Same.
func equal(a, b api.Event) bool {
	return a.Type == b.Type && a.Ts == b.Ts && slices.Equal(a.Vals, b.Vals)
}

// check asks Is, and whether its error is, or wraps, that number and no other.
func check(t *testing.T, s api.Schema, e api.Event, want api.Errno) {
	t.Helper()
	err := Is(s, e)
	if want == api.OK {
		if err != nil {
			t.Errorf("P3.1: Is(%v) = %v", e, err)
		}
		return
	}
	var got api.Errno
	if !errors.As(err, &got) || got != want || !errors.Is(err, want) {
		t.Errorf("P3.1: Is(%v) = %v, want %v", e, err, want)
	}
}

func TestIsOfEvents(t *testing.T) {
	for _, e := range []api.Event{
		hay(),
		of("idle", 0),
		{Type: "idle", Vals: []api.Value{}},
		of("sell", 1, text(""), num(0)),
		of("sell", 1, text("0123456789abcdef"), num(math.MinInt64)),
		of("buy", 1, num(math.MaxInt64), text(" ~"), truth(0)),
	} {
		check(t, trades(), e, api.OK)
	}
}

func TestIsByType(t *testing.T) {
	for _, name := range []string{"", "b", "bu", "buyy", "Buy", "idl", "price", "zzz", "\xff"} {
		check(t, trades(), of(name, 5, num(7), text("hay"), truth(1)), api.ErrName)
		check(t, trades(), of(name, 0), api.ErrName)
		check(t, api.Schema{}, of(name, 0), api.ErrName)
	}
	check(t, trades(), of("sell", 5, num(7), text("hay"), truth(1)), api.ErrForm)
	check(t, trades(), of("idle", 5, num(7), text("hay"), truth(1)), api.ErrForm)
}

func TestIsByTime(t *testing.T) {
	for _, c := range []struct {
		ts   int
		want api.Errno
	}{
		{math.MinInt, api.ErrForm},
		{-api.MaxTs, api.ErrForm},
		{-1, api.ErrForm},
		{0, api.OK},
		{1, api.OK},
		{api.MaxTs - 1, api.OK},
		{api.MaxTs, api.OK},
		{api.MaxTs + 1, api.ErrForm},
		{1 << 32, api.ErrForm},
		{math.MaxInt, api.ErrForm},
	} {
		check(t, trades(), of("buy", c.ts, num(7), text("hay"), truth(1)), c.want)
		check(t, trades(), of("idle", c.ts), c.want)
	}
}

func TestIsByNumberOfValues(t *testing.T) {
	all := []api.Value{num(7), text("hay"), truth(1), num(7), text("hay"), truth(1)}
	for n := range len(all) + 1 {
		want := api.ErrForm
		if n == 3 {
			want = api.OK
		}
		check(t, trades(), of("buy", 5, all[:n]...), want)
	}
	check(t, trades(), of("idle", 5, num(1)), api.ErrForm)
	check(t, trades(), of("sell", 5, text("hay")), api.ErrForm)
	check(t, trades(), of("sell", 5), api.ErrForm)
}

func TestIsByValues(t *testing.T) {
	for _, bad := range []api.Value{
		{},
		{Kind: 4},
		{Kind: -1, N: 1},
		{Kind: api.Int, N: 1, S: "x"},
		{Kind: api.Str, N: 1, S: "x"},
		{Kind: api.Bool, N: 1, S: "x"},
		truth(2),
		truth(-1),
		text("0123456789abcdefg"),
		text("\x1f"),
		text("\x7f"),
		text("é"),
	} {
		for i := range 3 {
			e := hay()
			e.Vals[i] = bad
			check(t, trades(), e, api.ErrForm)
		}
	}
}

func TestIsByKinds(t *testing.T) {
	some := []api.Value{num(0), text(""), truth(0)}
	for _, a := range some {
		for _, b := range some {
			for _, c := range some {
				want := api.ErrKind
				if a.Kind == api.Int && b.Kind == api.Str && c.Kind == api.Bool {
					want = api.OK
				}
				check(t, trades(), of("buy", 5, a, b, c), want)
			}
		}
	}
	check(t, trades(), of("sell", 5, num(1), text("hay")), api.ErrKind)
}

func TestIsTellsTheFirstError(t *testing.T) {
	for _, c := range []struct {
		e    api.Event
		want api.Errno
	}{
		{of("none", -1, api.Value{}), api.ErrName},
		{of("none", 0, text("x"), num(1), num(1)), api.ErrName},
		{of("buy", -1, text("x"), num(1), num(1)), api.ErrForm},
		{of("buy", 0, text("x"), num(1)), api.ErrForm},
		{of("buy", 0, text("x"), num(1), truth(1), num(1)), api.ErrForm},
		{of("buy", 0, text("x"), num(1), truth(2)), api.ErrForm},
		{of("buy", 0, truth(2), num(1), num(1)), api.ErrForm},
		{of("buy", 0, text("x"), num(1), truth(1)), api.ErrKind},
	} {
		check(t, trades(), c.e, c.want)
	}
}

func TestIsInWhateverSchema(t *testing.T) {
	odd := api.Schema{Types: []api.Type{
		{Name: "z"},
		{Name: "", Fields: []api.Field{{Name: "", Kind: 9}}},
		{Name: "a", Fields: []api.Field{{Name: "x", Kind: api.Int}, {Name: "x", Kind: api.Str}}},
	}}
	check(t, odd, of("z", 0), api.OK)
	check(t, odd, of("", 0, num(1)), api.ErrKind)
	check(t, odd, of("", 0, api.Value{Kind: 9}), api.ErrForm)
	check(t, odd, of("a", 0, num(1), text("x")), api.OK)
	check(t, odd, of("a", 0, num(1), num(1)), api.ErrKind)
}

func TestSameByAllParts(t *testing.T) {
	l := []api.Event{
		{},
		hay(),
		of("sell", 5, hay().Vals...),
		of("", 5, hay().Vals...),
		of("buy", 6, hay().Vals...),
		of("buy", -5, hay().Vals...),
		of("buy", 5),
		of("buy", 5, hay().Vals[:2]...),
		of("buy", 5, hay().Vals[1:]...),
		of("buy", 5, append(hay().Vals, num(0))...),
		of("buy", 5, append(hay().Vals, api.Value{})...),
		of("buy", 5, num(8), text("hay"), truth(1)),
		of("buy", 5, truth(7), text("hay"), truth(1)),
		of("buy", 5, num(7), text("hey"), truth(1)),
		of("buy", 5, num(7), text("hay"), truth(0)),
		of("buy", 5, num(7), text("hay"), num(1)),
		of("buy", 5, num(7), truth(1), text("hay")),
		of("buy", 5, num(7), text("hay"), api.Value{Kind: api.Bool, N: 1, S: "x"}),
		of("buy", 0),
		of("", 0, api.Value{}),
	}
	for i, a := range l {
		for k, b := range l {
			if Same(a, b) != (i == k) {
				t.Errorf("P3.1: Same(%v, %v) = %v", a, b, i != k)
			}
		}
	}
}

func TestSameWhereverItLies(t *testing.T) {
	if !Same(hay(), hay()) {
		t.Error("P3.1: an event at another place is another one")
	}
	if !Same(of("idle", 1), api.Event{Type: "idle", Ts: 1, Vals: []api.Value{}}) {
		t.Error("P3.1: no values and an empty list of them differ")
	}
	room := hay()
	room.Vals = append(room.Vals, num(9))[:3]
	if !Same(room, hay()) || !Same(hay(), room) {
		t.Error("P3.1: spare room makes another event")
	}
}

func TestGet(t *testing.T) {
	for _, c := range []struct {
		e     api.Event
		field string
		want  api.Value
	}{
		{hay(), "price", num(7)},
		{hay(), "item", text("hay")},
		{hay(), "firm", truth(1)},
		{of("sell", 1, text("oats"), num(3)), "price", num(3)},
		{of("sell", 1, text("oats"), num(3)), "item", text("oats")},
		{of("sell", 1, text(""), num(0)), "item", text("")},
	} {
		if v, ok := Get(trades(), c.e, c.field); v != c.want || !ok {
			t.Errorf("P3.1: Get(%v, %q) = %v, %v", c.e, c.field, v, ok)
		}
	}
}

func noGet(t *testing.T, s api.Schema, e api.Event, field string) {
	t.Helper()
	if v, ok := Get(s, e, field); ok || v != (api.Value{}) {
		t.Errorf("P3.1: Get(%v, %q) = %v, %v", e, field, v, ok)
	}
}

func TestGetOfNone(t *testing.T) {
	for _, name := range []string{"", "b", "Buy", "price", "zzz", "\xff"} {
		noGet(t, trades(), of(name, 5, hay().Vals...), "price")
		noGet(t, api.Schema{}, of(name, 5, hay().Vals...), "price")
	}
	for _, field := range []string{"", "p", "pric", "pricee", "Price", "buy", "\xff"} {
		noGet(t, trades(), hay(), field)
	}
	noGet(t, trades(), of("sell", 5, hay().Vals...), "firm")
	noGet(t, trades(), of("idle", 5, hay().Vals...), "price")
	for n, fields := range []string{"price item firm", "item firm", "firm", ""} {
		for _, field := range strings.Fields(fields) {
			noGet(t, trades(), of("buy", 5, hay().Vals[:n]...), field)
		}
	}
}

func TestGetFromWhateverEvent(t *testing.T) {
	odd := api.Value{Kind: 9, N: 9, S: "\xff"}
	for _, c := range []struct {
		e     api.Event
		field string
		want  api.Value
	}{
		{of("buy", -1, hay().Vals...), "price", num(7)},
		{of("buy", 5, num(7)), "price", num(7)},
		{of("buy", 5, append(hay().Vals, num(9))...), "firm", truth(1)},
		{of("buy", 5, text("x"), num(1)), "item", num(1)},
		{of("buy", 5, odd), "price", odd},
		{of("buy", 5, api.Value{}), "price", api.Value{}},
	} {
		if v, ok := Get(trades(), c.e, c.field); v != c.want || !ok {
			t.Errorf("P3.1: Get(%v, %q) = %v, %v", c.e, c.field, v, ok)
		}
	}
	nameless := api.Schema{Types: []api.Type{{Fields: []api.Field{{}}}}}
	if v, ok := Get(nameless, of("", 0, num(1)), ""); v != num(1) || !ok {
		t.Errorf("P3.1: Get of a field without a name = %v, %v", v, ok)
	}
}

func TestCopy(t *testing.T) {
	for _, e := range []api.Event{
		{},
		hay(),
		of("idle", 3),
		{Type: "idle", Vals: []api.Value{}},
		of("\xff", math.MinInt, api.Value{Kind: 9, S: "\x00"}),
		of("long", 1, slices.Repeat([]api.Value{num(1)}, 1000)...),
	} {
		if c := Copy(e); !equal(c, e) || !Same(c, e) {
			t.Errorf("P3.1: Copy(%v) = %v", e, c)
		}
	}
}

func TestCopySharesNothing(t *testing.T) {
	e := hay()
	e.Vals = append(e.Vals, num(9))[:3]
	first, second := Copy(e), Copy(e)
	whole := first.Vals[:cap(first.Vals)]
	for i := range whole {
		whole[i] = text("changed")
	}
	if !equal(e, hay()) || e.Vals[:4][3] != num(9) {
		t.Errorf("P3.1: a copy lies in its event: %v", e)
	}
	if !equal(second, hay()) {
		t.Errorf("P3.1: two copies share memory: %v", second)
	}
	room := e.Vals[:4]
	for i := range room {
		room[i] = text("changed")
	}
	if !equal(second, hay()) {
		t.Errorf("P3.1: a copy changes with its event: %v", second)
	}
}

func TestCopyOfNothingSharesNoRoom(t *testing.T) {
	room := []api.Value{num(1), num(2)}
	c := Copy(of("idle", 0, room[:0]...))
	whole := c.Vals[:cap(c.Vals)]
	for i := range whole {
		whole[i] = text("changed")
	}
	if room[0] != num(1) || room[1] != num(2) {
		t.Errorf("P3.1: a copy without values keeps its event's room: %v", room)
	}
}

func TestArgumentsStayAsTheyAre(t *testing.T) {
	s, e := trades(), hay()
	e.Vals = append(e.Vals, num(9))[:3]
	Is(s, e)
	Same(e, e)
	Get(s, e, "firm")
	Copy(e)
	if !equal(e, hay()) || e.Vals[:4][3] != num(9) {
		t.Errorf("P3.1: a call changed its event: %v", e)
	}
	if !schema.Same(s, trades()) {
		t.Errorf("P3.1: a call changed its schema: %v", s)
	}
}

func TestAnEventIsWhatComes(t *testing.T) {
	s := trades()
	for _, e := range []api.Event{hay(), of("idle", 6), of("sell", 6, text("hay"), num(9))} {
		if err := Is(s, e); err != nil {
			t.Fatalf("P3.2: %v doesn't come: %v", e, err)
		}
		typ, _ := schema.Find(s, e.Type)
		for i, f := range typ.Fields {
			if v, ok := Get(s, e, f.Name); !ok || v != e.Vals[i] || v.Kind != f.Kind {
				t.Errorf("P3.2: what came bears %v, %v in %q", v, ok, f.Name)
			}
		}
		if err := Is(s, Copy(e)); err != nil {
			t.Errorf("P3.2: what came is no more an event, copied: %v", err)
		}
	}
	if Is(s, of("steal", 6)) == nil {
		t.Error("P3.2: what the schema doesn't name comes")
	}
}

func TestSlotsMayBeLeftAndGoneThroughAgain(t *testing.T) {
	typ := trades().Types[0]
	walk := slots(typ, hay())
	for n := range 4 {
		var got []api.Value
		for f, v := range walk {
			if len(got) == n {
				break
			}
			if f != typ.Fields[len(got)] {
				t.Errorf("P3.1: field %d is %v", len(got), f)
			}
			got = append(got, v)
			for range walk {
				break
			}
		}
		if !slices.Equal(got, hay().Vals[:n]) {
			t.Errorf("P3.1: left behind %d: %v", n, got)
		}
	}
}
