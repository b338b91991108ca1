package parse

import (
	"math"
	"strconv"
	"strings"
	"testing"

	"pastern/api"
	"pastern/expr"
)

func elem(alias string, types ...string) api.Elem { return api.Elem{Alias: alias, Types: types} }

func TestPatternsByTheirParts(t *testing.T) {
	isPattern(t, "SEQ(a:b) WITHIN 5", api.Pattern{Elems: []api.Elem{elem("a", "b")}, Within: 5})
	isPattern(t, "SEQ(b:a) WITHIN 0 ANY", api.Pattern{Elems: []api.Elem{elem("b", "a")}, Any: true})
	isPattern(t, "SEQ(a:b) WITHIN 7 BY who", api.Pattern{Elems: []api.Elem{elem("a", "b")}, Within: 7, By: "who"})
	isPattern(t, "SEQ(a:b) WITHIN 7 BY any ANY", api.Pattern{Elems: []api.Elem{elem("a", "b")}, Within: 7, By: "any", Any: true})
	isPattern(t, "SEQ(eightbyt:a|b|eightbyt) WITHIN 1000 BY eightbyt",
		api.Pattern{Elems: []api.Elem{elem("eightbyt", "a", "b", "eightbyt")}, Within: 1000, By: "eightbyt"})
	five := []api.Elem{elem("a", "b"), elem("c", "b"), elem("b", "b"), elem("e", "d"), elem("d", "a")}
	isPattern(t, "SEQ(a:b, c:b, b:b, e:d, d:a) WITHIN 1", api.Pattern{Elems: five, Within: 1})

	first, not, plus, both := elem("a", "y"), elem("b", "x", "y"), elem("c", "x"), elem("d", "y", "z")
	first.Cond = of(api.EEq, at("a", "n"), num(1))
	not.Not, not.Cond = true, text("],|!:")
	plus.Plus = true
	both.Plus, both.Cond = true, of(api.ENot, at("c", "big"))
	isPattern(t, `SEQ(a:y[(a.n = 1)], !b:x|y["],|!:"], c:x+, d:y|z+[(NOT c.big)]) WITHIN 1000 BY id ANY`,
		api.Pattern{Elems: []api.Elem{first, not, plus, both}, Within: 1000, By: "id", Any: true})
}

func TestNoPatternByItsWords(t *testing.T) {
	noPattern(t, api.ErrForm, "", "   ", "5", "a.n", "SEQ", "SEQ(", "SEQ()", "SEQ() WITHIN 5", "SEQ a:b WITHIN 5", "(a:b) WITHIN 5",
		"SEQ[a:b] WITHIN 5", "seq(a:b) WITHIN 5", "SEQ(a:b) within 5", "SEQ(a:b) WITHIN 5 by k", "SEQ(a:b) WITHIN 5 any",
		"ALL(a:b) WITHIN 5", `"SEQ"(a:b) WITHIN 5`, "SEQ(a:b)", "SEQ(a:b WITHIN 5", "SEQ(a:b)) WITHIN 5", "(SEQ(a:b) WITHIN 5)", "WITHIN 5 SEQ(a:b)",
		"SEQ(a:b) 5", "SEQ(a:b) WITHIN", "SEQ(a:b) WITHIN x", "SEQ(a:b) WITHIN TRUE", `SEQ(a:b) WITHIN "5"`, "SEQ(a:b) WITHIN (5)", "SEQ(a:b) WITHIN - 5",
		"SEQ(a:b) WITHIN 5 5", "SEQ(a:b) WITHIN 5 BY", "SEQ(a:b) WITHIN 5 BY ANY", "SEQ(a:b) WITHIN 5 BY 5", `SEQ(a:b) WITHIN 5 BY "k"`, "SEQ(a:b) WITHIN 5 BY a.k",
		"SEQ(a:b) WITHIN 5 BY k m", "SEQ(a:b) WITHIN 5 BY k BY k", "SEQ(a:b) WITHIN 5 ANY BY k", "SEQ(a:b) WITHIN 5 ANY ANY", "SEQ(a:b) WITHIN 5 k",
		"SEQ(a:b) BY k WITHIN 5", "SEQ(a:b) ANY WITHIN 5", "SEQ(a:b) WITHIN 5 WITHIN 5", "SEQ(a:b) WITHIN 5,", "SEQ(a:b) WITHIN 5 SEQ(a:b) WITHIN 5")
	for _, e := range []string{
		"", "a", "a:", ":b", ":", "a b", "a.b", "a::b", "a:b:c", "5:b", "a:5", `"a":b`, `a:"b"`, "A:b", "a:B", "a:TRUE",
		"a:b|", "a:|b", "a:b||c", "a:b c", "a:b,c", "a:b|5", "a:(b)", "(a:b)", "!", "!!c:b", "a!:b", "a:!b", "a:b!", "NOT a:b",
		"+a:b", "a+:b", "a:+b", "a:b++", "a:b+c", "a:b+|c", "a:b*", "a:b[]", "a:b[", "a:b]", "a:b[1", "a:b 1]", "a:b[1][2]", "a:b[1]+", "a:b+[1", "a:b(1)",
		"a[1]:b", "[1]a:b", "a:[1]b", "a:b[1]|c", "a:b[1 2]", "a:b[(1 + )]", "a:b[a]", "a:b[007]", "a:b[YES]", "a:b[NOT 1]", "a:b[x:y]",
	} {
		noPattern(t, api.ErrForm, "SEQ("+e+") WITHIN 5", "SEQ("+e+", z:z) WITHIN 5", "SEQ(y:y, "+e+", z:z) WITHIN 5", "SEQ(y:y, "+e+") WITHIN 5")
	}
	noPattern(t, api.ErrForm, "SEQ(a:b,) WITHIN 5", "SEQ(,a:b) WITHIN 5", "SEQ(a:b,,c:d) WITHIN 5", "SEQ(a:b c:d) WITHIN 5")
	noPattern(t, api.ErrWord, "SEQ(a;b) WITHIN 5", "SEQ(a:b) WITHIN 5;")
	noPattern(t, api.ErrLarge, "SEQ(ninebytes:b) WITHIN 5", "SEQ(a:ninebytes) WITHIN 5", "SEQ(a:b) WITHIN 5 BY ninebytes")
}

// notOtherwise: texts that are patterns by their words, and that expr refuses.
// In each @ stands for what may be asked of an element of it.
func notOtherwise() []string {
	return []string{
		"SEQ(a:b, a:c@) WITHIN 5", "SEQ(a:b, c:d, a:b@) WITHIN 5", "SEQ(a:b, !a:c, d:e@) WITHIN 5",
		"SEQ(!a:b@) WITHIN 5", "SEQ(!a:b, c:d@) WITHIN 5", "SEQ(a:b, !c:d@) WITHIN 5", "SEQ(a:b, !c:d, !e:f, g:h@) WITHIN 5",
		"SEQ(a:b, !c:d+, e:f@) WITHIN 5", "SEQ(a:b, !c:d+@, e:f) WITHIN 5",
		"SEQ(a:c|b@) WITHIN 5", "SEQ(a:b|b@) WITHIN 5", "SEQ(a:b|a|c@) WITHIN 5", "SEQ(a:a|c|b@) WITHIN 5", "SEQ(a:b|c|d|e@) WITHIN 5",
		"SEQ(a:b, c:d, e:f, g:h, i:j, k:l@) WITHIN 5",
		"SEQ(a:b@) WITHIN 1001", "SEQ(a:b@) WITHIN -1", "SEQ(a:b@) WITHIN 4294967301", "SEQ(a:b@) WITHIN -4294967291",
		"SEQ(a:b@) WITHIN 9223372036854775807", "SEQ(a:b@) WITHIN -9223372036854775808",
	}
}

func TestNoPatternOtherwise(t *testing.T) {
	for _, s := range notOtherwise() {
		noPattern(t, api.ErrForm, strings.ReplaceAll(s, "@", ""), strings.ReplaceAll(s, "@", "[TRUE]"), strings.ReplaceAll(s, "@", "["+sum(12)+"]"),
			strings.ReplaceAll(s, "@", "["+nots(4, "a.n")+"]"))
	}
}

func TestTooLargeAheadOfOtherwise(t *testing.T) {
	for _, s := range notOtherwise() {
		noPattern(t, api.ErrLarge, strings.ReplaceAll(s, "@", "["+nots(5, "TRUE")+"]"), strings.ReplaceAll(s, "@", "["+sum(13)+"]"),
			strings.ReplaceAll(s, "@", "[((((((")) // whatever else lacks behind it
		noPattern(t, api.ErrForm, strings.ReplaceAll(s, "@", "[()]["+sum(13)+"]"))
	}
}

func TestWindows(t *testing.T) {
	for _, within := range []int64{0, 1, 999, 1000, 1001, 10000, -1, -1000, math.MaxInt32, math.MinInt32, 1 << 32, 1<<32 + 5, -1<<32 + 5, math.MaxInt64, math.MinInt64} {
		for _, rest := range []string{"", " ", " BY k", "BY k ANY", " ANY", "ANY  "} {
			s := "SEQ(a:b) WITHIN " + strconv.FormatInt(within, 10) + rest
			if within < 0 || within > api.MaxWithin {
				noPattern(t, api.ErrForm, s)
				continue
			}
			want := api.Pattern{Elems: []api.Elem{elem("a", "b")}, Within: int(within), Any: strings.Contains(rest, "ANY")}
			if strings.Contains(rest, "BY") {
				want.By = "k"
			}
			isPattern(t, s, want)
		}
	}
}

// TestEachConditionHasItsOwnLimits: all that may be, at once; and one more in
// each of the conditions.
func TestEachConditionHasItsOwnLimits(t *testing.T) {
	most := strings.Replace(sum(12), "1", "(NOT 1)", 1)
	conds := []string{most, most, most, most, most}
	text := func() string {
		var elems []string
		for i, cond := range conds {
			elems = append(elems, string(rune('a'+i))+":a|b|c+["+cond+"]")
		}
		return "SEQ(" + strings.Join(elems, ", ") + ") WITHIN 1000 BY eightbyt ANY"
	}
	if p, err := Pattern(text()); err != nil || len(p.Elems) != 5 || len(expr.Nodes(p.Elems[4].Cond)) != api.MaxNodes {
		t.Errorf("P9.1: Pattern(%s) = %+v, %v", text(), p, err)
	}
	for i := range conds {
		conds[i] = strings.Replace(most, "(NOT 1)", "(1 = 1)", 1)
		noPattern(t, api.ErrLarge, text())
		conds[i] = most
	}
}

// TestWordsOfAnotherKind: a text of the same letters is no sign, no great word
// and no name.
func TestWordsOfAnotherKind(t *testing.T) {
	for _, p := range []string{
		`SEQ ( a : b | c + [ ( ( NOT a . n ) AND ( 1 <= b . m ) ) ] , ! d : e , f : g ) WITHIN 10 BY k ANY`,
		`SEQ ( a : b [ ( ( ( 1 + 2 ) - ( 3 * 4 ) ) != ( ( 1 = 2 ) OR ( 1 < 2 ) ) ) ] ) WITHIN 10 ANY`,
	} {
		words := strings.Fields(p)
		if _, err := Pattern(p); err != nil {
			t.Fatalf("P9.1: Pattern(%s): %v", p, err)
		}
		for i, w := range words {
			if _, err := strconv.Atoi(w); err == nil && words[i-1] != "WITHIN" {
				continue // what stands for a number may be a text
			}
			words[i] = `"` + w + `"`
			noPattern(t, api.ErrForm, strings.Join(words, " "))
			words[i] = w
		}
	}
}
