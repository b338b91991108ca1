package parse

import (
	"math/rand/v2"
	"slices"
	"strconv"
	"strings"
	"testing"

	"pastern/api"
	"pastern/expr"
	"pastern/show"
	"pastern/word"
)

// wordsOf: the words of a text, as they stand there; none of what has no words.
func wordsOf(s string) []string {
	l, _ := word.Cut(s)
	var out []string
	for i, w := range l {
		end := len(s)
		if i+1 < len(l) {
			end = l[i+1].At
		}
		out = append(out, strings.Trim(s[w.At:end], " "))
	}
	return out
}

// A writer draws texts that show would make: the same ones each time.
type writer struct{ *rand.Rand }

func newWriter(seed uint64) writer { return writer{rand.New(rand.NewPCG(9, seed))} }

func (w writer) one(l ...string) string { return l[w.IntN(len(l))] }

func (w writer) name() string {
	out := ""
	for range 1 + w.IntN(api.MaxName) {
		out += string(rune('a' + w.IntN(26)))
	}
	return out
}

func (w writer) leaf() string {
	switch w.IntN(4) {
	case 0:
		return strconv.FormatInt(int64(w.Uint64())>>w.IntN(64), 10)
	case 1:
		return w.one("TRUE", "FALSE")
	case 2:
		return w.name() + "." + w.name()
	}
	out := ""
	for range w.IntN(api.MaxText + 1) {
		out += w.one(`\"`, `\\`, " ", string(rune(35+w.IntN(57))), string(rune(93+w.IntN(34))))
	}
	return `"` + out + `"`
}

// condition: of so many leaves, or fewer, and no deeper than that.
func (w writer) condition(leaves, depth int) string {
	switch {
	case depth == 1 || w.IntN(6) == 0:
		return w.leaf()
	case leaves == 1 || w.IntN(6) == 0:
		return "(NOT " + w.condition(leaves, depth-1) + ")"
	}
	left := 1 + w.IntN(leaves-1)
	return "(" + w.condition(left, depth-1) + " " + w.one("+", "-", "*", "=", "!=", "<", "<=", "AND", "OR") + " " + w.condition(leaves-left, depth-1) + ")"
}

// drawn: a condition that may be. (Nots may be too many.)
func (w writer) drawn() string {
	for {
		s := w.condition(1+w.IntN(12), 1+w.IntN(api.MaxDepth))
		if x := conditionBy(wordsOf(s)); x == 0 {
			return s
		}
	}
}

func (w writer) names(most int) []string {
	var out []string
	for range 1 + w.IntN(most) {
		out = append(out, w.name())
	}
	slices.Sort(out)
	return slices.Compact(out)
}

func (w writer) pattern() string {
	elems := w.names(api.MaxElems)
	w.Shuffle(len(elems), func(i, k int) { elems[i], elems[k] = elems[k], elems[i] })
	not := true
	for i, alias := range elems {
		not = !not && i < len(elems)-1 && w.IntN(3) == 0
		elems[i] = alias + ":" + strings.Join(w.names(api.MaxAlts), "|")
		if not {
			elems[i] = "!" + elems[i]
		} else {
			elems[i] += w.one("", "+")
		}
		if w.IntN(2) == 0 {
			elems[i] += "[" + w.drawn() + "]"
		}
	}
	return "SEQ(" + strings.Join(elems, ", ") + ") WITHIN " + strconv.Itoa(w.IntN(api.MaxWithin+1)) + w.one("", " BY "+w.name()) + w.one("", " ANY")
}

// spaced: the same words with any number of blanks on both ends and between
// them; with none only where they part by themselves.
func (w writer) spaced(s string) string {
	out, last := strings.Repeat(" ", w.IntN(3)), ""
	for _, next := range wordsOf(s) {
		blanks := max(0, w.IntN(6)-2)
		if blanks == 0 && !slices.Equal(wordsOf(last+next), slices.DeleteFunc([]string{last, next}, func(s string) bool { return s == "" })) {
			blanks = 1
		}
		out, last = out+strings.Repeat(" ", blanks)+next, next
	}
	return out + strings.Repeat(" ", w.IntN(3))
}

func TestConditionsAreWhatOneWrote(t *testing.T) {
	w := newWriter(21)
	for range 5000 {
		s := w.drawn()
		for _, as := range []string{s, w.spaced(s), strings.Join(wordsOf(s), " "), strings.Join(wordsOf(s), "   ")} {
			if x, err := Expr(as); err != nil || show.Expr(x) != s {
				t.Fatalf("P9.2: Expr(%q) is %s, %v, not %s", as, show.Expr(x), err, s)
			}
		}
	}
}

func TestPatternsAreWhatOneWrote(t *testing.T) {
	w := newWriter(22)
	for range 4000 {
		s := w.pattern()
		for _, as := range []string{s, w.spaced(s), strings.Join(wordsOf(s), " "), strings.Join(wordsOf(s), "   ")} {
			if p, err := Pattern(as); err != nil || show.Pattern(p) != s {
				t.Fatalf("P9.2: Pattern(%q) is %s, %v, not %s", as, show.Pattern(p), err, s)
			}
		}
	}
}

func TestBlanks(t *testing.T) {
	for s, want := range map[string]string{
		"  ( a . n+1 )  ": "(a.n + 1)", "(a.n<=1)": "(a.n <= 1)", "(1<-1)": "(1 < -1)", "(1--1)": "(1 - -1)", "(1- 1)": "(1 - 1)",
		"(NOT(NOT TRUE))": "(NOT (NOT TRUE))", `(NOT"x")`: `(NOT "x")`, `("x"="y")`: `("x" = "y")`, "(1AND 2)": "(1 AND 2)", "(a.nORb.m)": "(a.n OR b.m)",
		"(NOTa.n)": "(NOT a.n)", "(TRUE*FALSE)": "(TRUE * FALSE)", "(NOT1)": "(NOT 1)", `  " "  `: `" "`,
		strings.Repeat(" ", 1<<20) + "1" + strings.Repeat(" ", 1<<20): "1",
	} {
		if x, err := Expr(s); err != nil || show.Expr(x) != want {
			t.Errorf("P9.2: Expr(%.80q) is %s, %v, not %s", s, show.Expr(x), err, want)
		}
	}
	for s, want := range map[string]string{
		"SEQ(a:b)WITHIN5":                             "SEQ(a:b) WITHIN 5",
		"SEQ(a:b,!c:d[1],e:f+[a.n])WITHIN5BYkANY":     "SEQ(a:b, !c:d[1], e:f+[a.n]) WITHIN 5 BY k ANY",
		" SEQ ( a : b | c + [ 1 ] ) WITHIN  5  ANY  ": "SEQ(a:b|c+[1]) WITHIN 5 ANY",
		"SEQ(a:b)WITHIN0ANY":                          "SEQ(a:b) WITHIN 0 ANY",
	} {
		if p, err := Pattern(s); err != nil || show.Pattern(p) != want {
			t.Errorf("P9.2: Pattern(%q) is %s, %v, not %s", s, show.Pattern(p), err, want)
		}
	}
	noExpr(t, api.ErrForm, "(1 -1)", "(a.n-1)", "(1 < = 2)", "(1 ! = 2)", "(NOTTRUE)", "(TRUEAND 1)", "T RUE", "(a.n A ND b.n)", "1 0", "- 1")
	noExpr(t, api.ErrWord, "(a.n\t+ 1)", "a.n\n", "\r1", "1\u00a0")
	noPattern(t, api.ErrForm, "SE Q(a:b) WITHIN 5", "SEQ(a:b) WITHIN 1 0", "SEQ(a:b) WITHIN 5 BYANY", "SEQ(a:b) WITHIN 5 B Y k")
	noPattern(t, api.ErrWord, "SEQ(a:b)\nWITHIN 5", "SEQ(a:b) WITHIN 5\n")
}

// TestAnswersShareNothing: what is done with an answer, its spare room too, is
// seen in no other one and in no other list of the same one.
func TestAnswersShareNothing(t *testing.T) {
	w := newWriter(23)
	for range 2000 {
		s := w.pattern()
		p, _ := Pattern(s)
		other, _ := Pattern(s)
		for i := range p.Elems {
			e := &p.Elems[i]
			spoil(e.Types, "spoilt")
			spoilExpr(e.Cond)
			for _, later := range p.Elems[i+1:] {
				if !slices.IsSorted(later.Types) || later.Cond.Op != 0 && !expr.Is(later.Cond) {
					t.Fatalf("P9.1: two lists of Pattern(%s) share memory", s)
				}
			}
		}
		spoil(p.Elems, api.Elem{})
		if again, err := Pattern(s); err != nil || show.Pattern(other) != s || show.Pattern(again) != s {
			t.Fatalf("P9.1: two answers of Pattern(%s) share memory", s)
		}
	}
}

func spoil[T any](l []T, with T) {
	l = l[:cap(l)]
	for i := range l {
		l[i] = with
	}
}

func spoilExpr(x api.Expr) {
	for _, kid := range x.Kids {
		spoilExpr(kid)
	}
	spoil(x.Kids, api.Expr{Op: -1})
}

// TestWhateverBytes: each call comes back, with an error of the chapter or with
// what show would make of that.
func TestWhateverBytes(t *testing.T) {
	w := newWriter(24)
	bits := strings.Fields(`( ) [ ] : | , + ! . - * = != < <= SEQ WITHIN BY ANY NOT AND TRUE a b 1 007 "x" " \ #`)
	for range 20000 {
		s := ""
		for range w.IntN(30) {
			s += w.one(bits...) + w.one("", " ")
			if w.IntN(40) == 0 {
				s += string([]byte{byte(w.IntN(256))})
			}
		}
		x, err := Expr(s)
		_, cut := word.Cut(s)
		if e := errno(err); e != 0 && e != api.ErrForm && e != api.ErrLarge && e != api.ErrWord || errno(cut) != 0 && e != errno(cut) || e == 0 && !expr.Is(x) {
			t.Fatalf("P9.1: Expr(%q) = %+v, %v", s, x, err)
		}
		p, err := Pattern(s)
		if e := errno(err); e != 0 && e != api.ErrForm && e != api.ErrLarge && e != api.ErrWord || errno(cut) != 0 && e != errno(cut) || e == 0 && !expr.Pattern(p) {
			t.Fatalf("P9.1: Pattern(%q) = %+v, %v", s, p, err)
		}
	}
	for _, s := range []string{"(", ")", "(NOT ", "((1 + ", "SEQ(", "SEQ(a:b[", "a", "1", `"`, `\`, "\x00", "!", "a:b,", " "} {
		s = strings.Repeat(s, 1<<20/len(s))
		if _, err := Expr(s); err == nil {
			t.Errorf("P9.1: Expr of much of %.20q is told", s)
		}
		if _, err := Pattern(s); err == nil {
			t.Errorf("P9.1: Pattern of much of %.20q is told", s)
		}
	}
}
