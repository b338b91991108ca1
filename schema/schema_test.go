package schema

import (
	"math"
	"slices"
	"strings"
	"testing"

	"pastern/api"
)

func of(types ...api.Type) api.Schema { return api.Schema{Types: types} }

func typ(name string, fields ...api.Field) api.Type { return api.Type{Name: name, Fields: fields} }

func fld(name string, kind int) api.Field { return api.Field{Name: name, Kind: kind} }

// letters: n types or fields take the names a, b, c ..
func letters(n int) []string { return strings.Split("abcdefghijklmnopqrstuvwxyz"[:n], "") }

func typesOf(n int) []api.Type {
	var l []api.Type
	for _, s := range letters(n) {
		l = append(l, typ(s))
	}
	return l
}

func fieldsOf(n int) []api.Field {
	var l []api.Field
	for _, s := range letters(n) {
		l = append(l, fld(s, api.Int))
	}
	return l
}

// trades: types with several fields and with none, fields out of order.
func trades() api.Schema {
	return of(
		typ("buy", fld("price", api.Int), fld("item", api.Str), fld("firm", api.Bool)),
		typ("idle"),
		typ("sell", fld("item", api.Str), fld("price", api.Int)),
	)
}

func TestIsByNumbers(t *testing.T) {
	for n := 1; n <= 3*api.MaxTypes; n++ {
		if Is(of(typesOf(n)...)) != (n <= api.MaxTypes) {
			t.Errorf("P2.1: %d types", n)
		}
	}
	for n := 1; n <= 3*api.MaxFields; n++ {
		if Is(of(typ("a", fieldsOf(n)...))) != (n <= api.MaxFields) {
			t.Errorf("P2.1: %d fields", n)
		}
		if Is(of(typ("a"), typ("b", fieldsOf(n)...))) != (n <= api.MaxFields) {
			t.Errorf("P2.1: %d fields of the last type", n)
		}
	}
	full := typesOf(api.MaxTypes)
	for i := range full {
		full[i].Fields = fieldsOf(api.MaxFields)
	}
	if !Is(of(full...)) {
		t.Error("P2.1: a schema with all the types and fields that it may have is none")
	}
	for i := range full {
		more := slices.Clone(full)
		more[i].Fields = fieldsOf(api.MaxFields + 1)
		if Is(of(more...)) {
			t.Errorf("P2.1: one field too many in type %d", i)
		}
	}
}

func TestIsOfNothing(t *testing.T) {
	for _, s := range []api.Schema{{}, {Types: []api.Type{}}, of(typ("a")), of(api.Type{Name: "a", Fields: []api.Field{}})} {
		if !Is(s) {
			t.Errorf("P2.1: Is(%v) = false", s)
		}
	}
	if Is(of(api.Type{})) {
		t.Error("P2.1: a type without a name is one")
	}
	if Is(of(typ("a", api.Field{}))) {
		t.Error("P2.1: a field without anything is one")
	}
}

func TestIsByNamesOfTypes(t *testing.T) {
	for _, c := range []struct {
		names string
		want  bool
	}{
		{"a b", true},
		{"a aa ab b", true},
		{"abcdefgh z", true},
		{"abcdefghi", false},
		{"A", false},
		{"a1", false},
		{"a é", false},
		{"B a", false},
		{"a a", false},
		{"b a", false},
		{"aa a", false},
		{"a b b", false},
		{"a c b", false},
		{"b c a d", false},
		{"a b a", false},
	} {
		var l []api.Type
		for _, n := range strings.Fields(c.names) {
			l = append(l, typ(n, fld("x", api.Int)))
		}
		if got := Is(of(l...)); got != c.want {
			t.Errorf("P2.1: types %s: Is = %v", c.names, got)
		}
	}
	if Is(of(typ(""), typ("a"))) || Is(of(typ("a"), typ(""))) {
		t.Error("P2.1: the empty name is one")
	}
}

func TestIsByNamesOfFields(t *testing.T) {
	for _, c := range []struct {
		names string
		want  bool
	}{
		{"a b", true},
		{"b a", true},
		{"c a b", true},
		{"aa a ab", true},
		{"t", true},
		{"abcdefgh", true},
		{"abcdefghi", false},
		{"A", false},
		{"a_b", false},
		{"a a", false},
		{"a b a", false},
		{"b a a", false},
		{"a b c d a", false},
		{"a b c d d", false},
	} {
		var l []api.Field
		for i, n := range strings.Fields(c.names) {
			l = append(l, fld(n, i%3+1))
		}
		if got := Is(of(typ("t", l...))); got != c.want {
			t.Errorf("P2.1: fields %s: Is = %v", c.names, got)
		}
		if got := Is(of(typ("s", fld("x", api.Int)), typ("t", l...))); got != c.want {
			t.Errorf("P2.1: fields %s of the last type: Is = %v", c.names, got)
		}
	}
	if Is(of(typ("t", fld("a", api.Int), fld("", api.Int)))) {
		t.Error("P2.1: a field of the empty name is one")
	}
	if !Is(of(typ("s", fld("a", api.Int)), typ("t", fld("a", api.Str)))) {
		t.Error("P2.1: two types may not have a field of one name")
	}
}

func TestIsByKinds(t *testing.T) {
	for _, kind := range []int{math.MinInt, -1, 0, 1, 2, 3, 4, 5, math.MaxInt, 1<<32 + 1} {
		want := kind == api.Int || kind == api.Str || kind == api.Bool
		if Is(of(typ("a", fld("x", kind)))) != want {
			t.Errorf("P2.1: a field of kind %d: not %v", kind, want)
		}
		if Is(of(typ("a"), typ("b", fld("x", api.Int), fld("y", kind)))) != want {
			t.Errorf("P2.1: a last field of kind %d: not %v", kind, want)
		}
	}
}

func TestSameByAllParts(t *testing.T) {
	l := []api.Schema{
		{},
		trades(),
		of(trades().Types[:2]...),
		of(trades().Types[1:]...),
		of(typ("a")),
		of(typ("a"), typ("b")),
		of(typ("b"), typ("a")),
		of(typ("a"), typ("a")),
		of(typ("")),
		of(typ("", api.Field{})),
		of(typ("a", fld("x", api.Int))),
		of(typ("a", fld("x", api.Str))),
		of(typ("a", fld("x", 0))),
		of(typ("a", fld("y", api.Int))),
		of(typ("b", fld("x", api.Int))),
		of(typ("a", fld("x", api.Int), fld("y", api.Int))),
		of(typ("a", fld("y", api.Int), fld("x", api.Int))),
		of(typ("a", fld("x", api.Int), fld("x", api.Int))),
		of(typ("a", fld("x", api.Int)), typ("b")),
		of(typ("a"), typ("b", fld("x", api.Int))),
	}
	for i, a := range l {
		for k, b := range l {
			if Same(a, b) != (i == k) {
				t.Errorf("P2.1: Same(%v, %v) = %v", a, b, i != k)
			}
		}
	}
}

func TestSameWhereverItLies(t *testing.T) {
	if !Same(trades(), trades()) {
		t.Error("P2.1: a schema at another place is another one")
	}
	if !Same(api.Schema{}, of([]api.Type{}...)) || !Same(api.Schema{Types: []api.Type{}}, api.Schema{}) {
		t.Error("P2.1: no types and an empty list of them differ")
	}
	if !Same(of(typ("a")), of(api.Type{Name: "a", Fields: []api.Field{}})) {
		t.Error("P2.1: no fields and an empty list of them differ")
	}
	room := trades()
	room.Types[0].Fields = append(room.Types[0].Fields, fld("spare", api.Int))[:3]
	if !Same(room, trades()) {
		t.Error("P2.1: spare room makes another schema")
	}
}

func TestFind(t *testing.T) {
	s := trades()
	for _, want := range s.Types {
		got, ok := Find(s, want.Name)
		if !ok || !Same(of(got), of(want)) {
			t.Errorf("P2.1: Find %q = %v, %v", want.Name, got, ok)
		}
	}
	for _, name := range []string{"", "b", "bu", "buyy", "Buy", "item", "zzz", "\xff"} {
		got, ok := Find(s, name)
		if ok || !Same(of(got), of(api.Type{})) {
			t.Errorf("P2.1: Find %q = %v, %v", name, got, ok)
		}
		if got, ok := Find(api.Schema{}, name); ok || !Same(of(got), of(api.Type{})) {
			t.Errorf("P2.1: Find %q in nothing = %v, %v", name, got, ok)
		}
	}
}

func TestFindInWhateverSchema(t *testing.T) {
	s := of(typ("b"), typ("a", fld("x", 9)), typ(""))
	for i, name := range []string{"b", "a", ""} {
		if got, ok := Find(s, name); !ok || !Same(of(got), of(s.Types[i])) {
			t.Errorf("P2.1: Find %q in a list that doesn't rise = %v, %v", name, got, ok)
		}
	}
	many := of(append(typesOf(20), typ("z", fieldsOf(20)...))...)
	if got, ok := Find(many, "z"); !ok || len(got.Fields) != 20 {
		t.Errorf("P2.1: Find in a long list = %v, %v", got, ok)
	}
}

func TestFindAnswersNewMemory(t *testing.T) {
	s := trades()
	s.Types[0].Fields = append(s.Types[0].Fields, fld("spare", api.Int))[:3]
	first, _ := Find(s, "buy")
	second, _ := Find(s, "buy")
	whole := first.Fields[:cap(first.Fields)]
	for i := range whole {
		whole[i] = fld("changed", api.Bool)
	}
	want := trades()
	if !Same(s, want) || s.Types[0].Fields[:4][3] != fld("spare", api.Int) {
		t.Errorf("P2.1: what Find answers lies in its schema: %v", s)
	}
	if !Same(of(second), of(want.Types[0])) {
		t.Errorf("P2.1: two answers of Find share memory: %v", second)
	}
	room := s.Types[0].Fields[:4]
	for i := range room {
		room[i] = fld("changed", api.Bool)
	}
	if !Same(of(second), of(want.Types[0])) {
		t.Errorf("P2.1: what Find answers changes with its schema: %v", second)
	}
}

func TestField(t *testing.T) {
	for _, ty := range trades().Types {
		for i, f := range ty.Fields {
			if got := Field(ty, f.Name); got != i {
				t.Errorf("P2.1: Field %q of %q = %d", f.Name, ty.Name, got)
			}
		}
		for _, name := range []string{"", "p", "pric", "pricee", "Price", "buy", "\xff"} {
			if got := Field(ty, name); got != -1 {
				t.Errorf("P2.1: Field %q of %q = %d", name, ty.Name, got)
			}
		}
	}
	if got := Field(api.Type{}, ""); got != -1 {
		t.Errorf("P2.1: Field of nothing = %d", got)
	}
}

func TestFieldOfWhateverType(t *testing.T) {
	ty := typ("", append(fieldsOf(20), fld("", 0))...)
	if got := Field(ty, "t"); got != 19 {
		t.Errorf("P2.1: a field far behind is at %d", got)
	}
	if got := Field(ty, ""); got != 20 {
		t.Errorf("P2.1: a field without a name is at %d", got)
	}
}

func TestArgumentsStayAsTheyAre(t *testing.T) {
	s := trades()
	Is(s)
	Same(s, s)
	Find(s, "sell")
	Field(s.Types[0], "price")
	if !slices.EqualFunc(s.Types, trades().Types, func(a, b api.Type) bool {
		return a.Name == b.Name && slices.Equal(a.Fields, b.Fields)
	}) {
		t.Errorf("P2.1: a call changed its schema: %v", s)
	}
}

func TestASchemaSaysWhatMayCome(t *testing.T) {
	s := trades()
	if !Is(s) {
		t.Fatal("P2.2: trades are no schema")
	}
	e := api.Event{Type: "buy", Vals: []api.Value{{Kind: api.Int, N: 7}, {Kind: api.Str, S: "hay"}, {Kind: api.Bool}}}
	ty, ok := Find(s, e.Type)
	if !ok || len(ty.Fields) != len(e.Vals) {
		t.Fatalf("P2.2: the type of an event that may come: %v, %v", ty, ok)
	}
	for _, f := range ty.Fields {
		if e.Vals[Field(ty, f.Name)].Kind != f.Kind {
			t.Errorf("P2.2: the value of %q is not of the kind that its field says", f.Name)
		}
	}
	if _, ok := Find(s, "steal"); ok {
		t.Error("P2.2: a type that the schema doesn't name may come")
	}
}

func TestWalksMayBeLeftAndGoneThroughAgain(t *testing.T) {
	types, fields := typeNames(typesOf(3)), fieldNames(fieldsOf(3))
	for range 2 {
		for i, name := range letters(3) {
			if got := place(types, name); got != i {
				t.Errorf("P2.1: type %q at %d", name, got)
			}
			if got := place(fields, name); got != i {
				t.Errorf("P2.1: field %q at %d", name, got)
			}
		}
	}
}
