package value

import (
	"math"
	"slices"
	"strings"
	"testing"

	"pastern/api"
)

func TestIsOfEachKind(t *testing.T) {
	for _, c := range []struct {
		why  string
		v    api.Value
		want bool
	}{
		{"no kind", api.Value{}, false},
		{"no kind, a number", api.Value{N: 1}, false},
		{"no kind, a text", api.Value{S: "x"}, false},
		{"a kind below", api.Value{Kind: api.Int - 1}, false},
		{"a kind above", api.Value{Kind: api.Bool + 1}, false},
		{"a negative kind", api.Value{Kind: -api.Int}, false},
		{"a huge kind", api.Value{Kind: math.MaxInt}, false},

		{"int 0", api.Value{Kind: api.Int}, true},
		{"int 2", api.Value{Kind: api.Int, N: 2}, true},
		{"the least int", api.Value{Kind: api.Int, N: math.MinInt64}, true},
		{"the greatest int", api.Value{Kind: api.Int, N: math.MaxInt64}, true},
		{"int with a text", api.Value{Kind: api.Int, S: "x"}, false},

		{"empty text", api.Value{Kind: api.Str}, true},
		{"text with a number", api.Value{Kind: api.Str, S: "x", N: 1}, false},
		{"text with a negative number", api.Value{Kind: api.Str, N: -1}, false},

		{"false", api.Value{Kind: api.Bool}, true},
		{"true", api.Value{Kind: api.Bool, N: 1}, true},
		{"bool 2", api.Value{Kind: api.Bool, N: 2}, false},
		{"bool -1", api.Value{Kind: api.Bool, N: -1}, false},
		{"bool of 1 in the low bits alone", api.Value{Kind: api.Bool, N: 1<<32 + 1}, false},
		{"the least bool", api.Value{Kind: api.Bool, N: math.MinInt64}, false},
		{"bool with a text", api.Value{Kind: api.Bool, N: 1, S: "x"}, false},
	} {
		if got := Is(c.v); got != c.want {
			t.Errorf("P1.1: %s: Is(%+v) = %v", c.why, c.v, got)
		}
	}
}

func TestIsByBytesOfAText(t *testing.T) {
	for b := range 256 {
		want := b >= 32 && b <= 126
		for _, s := range []string{
			string([]byte{byte(b)}),
			string([]byte{byte(b), 'x', 'x'}),
			string([]byte{'x', byte(b), 'x'}),
			string([]byte{'x', 'x', byte(b)}),
		} {
			if Is(api.Value{Kind: api.Str, S: s}) != want {
				t.Errorf("P1.1: text %q: not %v", s, want)
			}
		}
	}
}

func TestIsByLengthOfAText(t *testing.T) {
	for n := range 3 * api.MaxText {
		if Is(api.Value{Kind: api.Str, S: strings.Repeat("x", n)}) != (n <= api.MaxText) {
			t.Errorf("P1.1: text of %d bytes", n)
		}
	}
	if Is(api.Value{Kind: api.Str, S: strings.Repeat("x", 1<<16+1)}) {
		t.Error("P1.1: a long text is a value")
	}
	if Is(api.Value{Kind: api.Str, S: "naïve"}) {
		t.Error("P1.1: a rune of two bytes is in a value")
	}
}

func TestSameByAllParts(t *testing.T) {
	var l []api.Value
	for _, kind := range []int{0, api.Int, api.Str, api.Bool, -1, 99} {
		for _, n := range []int64{0, 1, -1, 1 << 32} {
			for _, s := range []string{"", "x", "y", "xx"} {
				l = append(l, api.Value{Kind: kind, N: n, S: s})
			}
		}
	}
	for i, a := range l {
		for k, b := range l {
			if Same(a, b) != (i == k) {
				t.Errorf("P1.1: Same(%+v, %+v) = %v", a, b, i != k)
			}
		}
	}
}

func TestSameWhereverATextLies(t *testing.T) {
	whole := "abab"
	a := api.Value{Kind: api.Str, S: whole[:2]}
	b := api.Value{Kind: api.Str, S: whole[2:]}
	if !Same(a, b) {
		t.Error("P1.1: the same text at another place is another value")
	}
}

func TestZeroOfEachKind(t *testing.T) {
	for _, kind := range []int{api.Int, api.Str, api.Bool} {
		if got := Zero(kind); got != (api.Value{Kind: kind}) || !Is(got) {
			t.Errorf("P1.1: Zero(%d) = %+v", kind, got)
		}
	}
	for _, kind := range []int{0, -1, api.Bool + 1, math.MinInt, math.MaxInt} {
		if got := Zero(kind); got != (api.Value{}) {
			t.Errorf("P1.1: Zero(%d) = %+v", kind, got)
		}
	}
}

func TestNameByBytes(t *testing.T) {
	for b := range 256 {
		want := b >= 'a' && b <= 'z'
		for _, s := range []string{
			string([]byte{byte(b)}),
			string([]byte{byte(b), 'x', 'x'}),
			string([]byte{'x', byte(b), 'x'}),
			string([]byte{'x', 'x', byte(b)}),
		} {
			if Name(s) != want {
				t.Errorf("P1.1: name %q: not %v", s, want)
			}
		}
	}
}

func TestNameByLength(t *testing.T) {
	for n := range 3 * api.MaxName {
		if Name(strings.Repeat("x", n)) != (n >= 1 && n <= api.MaxName) {
			t.Errorf("P1.1: name of %d bytes", n)
		}
	}
	if Name("é") {
		t.Error("P1.1: a letter of two bytes is in a name")
	}
}

func TestRise(t *testing.T) {
	for _, c := range []struct {
		l    []string
		want bool
	}{
		{nil, true},
		{[]string{}, true},
		{[]string{""}, true},
		{[]string{"b"}, true},
		{[]string{"", "a"}, true},
		{[]string{"a", "b", "c"}, true},
		{[]string{"a", "aa", "ab", "b"}, true},
		{[]string{"B", "a"}, true},
		{[]string{"10", "9"}, true},
		{[]string{"z", "\x7f", "\x80", "\xff"}, true},
		{[]string{"", ""}, false},
		{[]string{"a", "a"}, false},
		{[]string{"aa", "a"}, false},
		{[]string{"a", "B"}, false},
		{[]string{"\xff", "a"}, false},
		{[]string{"b", "a", "c"}, false},
		{[]string{"a", "c", "b"}, false},
		{[]string{"a", "b", "b"}, false},
		{[]string{"b", "c", "a", "d"}, false},
	} {
		if got := Rise(c.l); got != c.want {
			t.Errorf("P1.2: Rise(%q) = %v", c.l, got)
		}
	}
}

func TestWith(t *testing.T) {
	for _, c := range []struct {
		l    []string
		s    string
		want []string
	}{
		{nil, "x", []string{"x"}},
		{[]string{}, "", []string{""}},
		{[]string{""}, "", []string{""}},
		{[]string{"a"}, "", []string{"", "a"}},
		{[]string{"b", "d"}, "a", []string{"a", "b", "d"}},
		{[]string{"b", "d"}, "b", []string{"b", "d"}},
		{[]string{"b", "d"}, "c", []string{"b", "c", "d"}},
		{[]string{"b", "d"}, "d", []string{"b", "d"}},
		{[]string{"b", "d"}, "e", []string{"b", "d", "e"}},
		{[]string{"b", "d"}, "ba", []string{"b", "ba", "d"}},
		{[]string{"b", "d"}, "D", []string{"D", "b", "d"}},
		{[]string{"b", "d"}, "\xff", []string{"b", "d", "\xff"}},
	} {
		if got := With(c.l, c.s); !slices.Equal(got, c.want) {
			t.Errorf("P1.2: With(%q, %q) = %q", c.l, c.s, got)
		}
	}
}

func TestWithOfEveryRow(t *testing.T) {
	all := []string{"a", "aa", "b", "ba", "c"}
	for set := range 1 << len(all) {
		var l []string
		for i, s := range all {
			if set>>i&1 == 1 {
				l = append(l, s)
			}
		}
		for _, s := range all {
			want := append(slices.Clone(l), s)
			slices.Sort(want)
			want = slices.Compact(want)
			got := With(l, s)
			if !slices.Equal(got, want) || !Rise(got) {
				t.Errorf("P1.2: With(%q, %q) = %q", l, s, got)
			}
		}
	}
}

func TestWithLeavesItsListAlone(t *testing.T) {
	for _, s := range []string{"a", "b", "c", "d", "e"} {
		room := []string{"b", "d", "spare", "spare"}
		got := With(room[:2], s)
		want := slices.Clone(got)
		if !slices.Equal(room, []string{"b", "d", "spare", "spare"}) {
			t.Errorf("P1.2: With .. %q wrote into its list: %q", s, room)
		}
		for i := range room {
			room[i] = "changed"
		}
		if !slices.Equal(got, want) {
			t.Errorf("P1.2: With .. %q shares its list's memory", s)
		}
	}
}

func TestWithAnswersNewMemory(t *testing.T) {
	l := []string{"b", "d"}
	for _, s := range []string{"a", "b", "c", "d", "e"} {
		first, second := With(l, s), With(l, s)
		want := slices.Clone(second)
		whole := first[:cap(first)]
		for i := range whole {
			whole[i] = "changed"
		}
		if !slices.Equal(second, want) || !slices.Equal(l, []string{"b", "d"}) || !slices.Equal(With(l, s), want) {
			t.Errorf("P1.2: two answers of With .. %q share memory", s)
		}
	}
}

func TestWithEndsWhateverTheList(t *testing.T) {
	for _, l := range [][]string{{"b", "a"}, {"a", "a"}, {"c", "a", "b"}} {
		for _, s := range []string{"", "a", "b", "c", "d"} {
			With(l, s)
		}
	}
}

func TestEventsBearValuesOfThreeKinds(t *testing.T) {
	e := api.Event{Type: "trade", Ts: 1, Vals: []api.Value{
		{Kind: api.Int, N: -7},
		{Kind: api.Str, S: "buy at \"7\""},
		{Kind: api.Bool, N: 1},
		Zero(api.Int), Zero(api.Str), Zero(api.Bool),
	}}
	for i, v := range e.Vals {
		if !Is(v) {
			t.Errorf("P1.3: an event may not bear %+v", v)
		}
		for k, w := range e.Vals {
			if Same(v, w) != (i == k) {
				t.Errorf("P1.3: values %d, %d of an event aren't told apart", i, k)
			}
		}
	}
	if Is(Zero(api.Bool + 1)) {
		t.Error("P1.3: an event may bear a value of a fourth kind")
	}
}

func TestRowsMayBeLeftAndGoneThroughAgain(t *testing.T) {
	pairs := row[string]{"a", "b", "c"}.pairs()
	for range 2 {
		for ahead, behind := range pairs {
			if ahead != "a" || behind != "b" {
				t.Errorf("P1.2: first pair %q, %q", ahead, behind)
			}
			break
		}
	}
	with := row[string]{"b", "c"}.with("a")
	for left := range 3 {
		var got []string
		for x := range with {
			got = append(got, x)
			if len(got) > left {
				break
			}
		}
		if !slices.Equal(got, []string{"a", "b", "c"}[:left+1]) {
			t.Errorf("P1.2: left behind %d: %q", left, got)
		}
	}
	if got := slices.Collect(with); !slices.Equal(got, []string{"a", "b", "c"}) {
		t.Errorf("P1.2: gone through again: %q", got)
	}
}
