package parse

import (
	"errors"
	"math"
	"strconv"
	"strings"
	"testing"

	"pastern/api"
	"pastern/expr"
)

func num(n int64) api.Expr {
	return api.Expr{Op: api.ELit, Val: api.Value{Kind: api.Int, N: n}}
}

func text(s string) api.Expr {
	return api.Expr{Op: api.ELit, Val: api.Value{Kind: api.Str, S: s}}
}

func truth(n int64) api.Expr {
	return api.Expr{Op: api.ELit, Val: api.Value{Kind: api.Bool, N: n}}
}

func at(alias, field string) api.Expr {
	return api.Expr{Op: api.EField, Alias: alias, Field: field}
}

func of(op int, kids ...api.Expr) api.Expr { return api.Expr{Op: op, Kids: kids} }

// errno: an error's number, 0 of none.
func errno(err error) api.Errno {
	var number api.Errno
	if err != nil && !errors.As(err, &number) {
		return -1
	}
	return number
}

// isExpr: s is that condition.
func isExpr(t *testing.T, s string, want api.Expr) {
	t.Helper()
	if got, err := Expr(s); err != nil || !expr.Same(got, want) {
		t.Errorf("P9.1: Expr(%.200s) = %+v, %v, not %+v", s, got, err, want)
	}
}

// noExpr: each of them is refused with that error, and nothing is told beside it.
func noExpr(t *testing.T, want api.Errno, l ...string) {
	t.Helper()
	for _, s := range l {
		if got, err := Expr(s); errno(err) != want || !expr.Same(got, api.Expr{}) {
			t.Errorf("P9.1: Expr(%.200q) = %+v, %v, not %v", s, got, err, want)
		}
	}
}

func isPattern(t *testing.T, s string, want api.Pattern) {
	t.Helper()
	if got, err := Pattern(s); err != nil || !expr.SamePattern(got, want) {
		t.Errorf("P9.1: Pattern(%.200s) = %+v, %v, not %+v", s, got, err, want)
	}
}

func noPattern(t *testing.T, want api.Errno, l ...string) {
	t.Helper()
	for _, s := range l {
		if got, err := Pattern(s); errno(err) != want || !expr.SamePattern(got, api.Pattern{}) {
			t.Errorf("P9.1: Pattern(%.200q) = %+v, %v, not %v", s, got, err, want)
		}
	}
}

// asking: a pattern of one element that has the condition.
func asking(cond string) string { return "SEQ(a:b[" + cond + "]) WITHIN 5" }

// nots: s under so many Nots.
func nots(n int, s string) string {
	return strings.Repeat("(NOT ", n) + s + strings.Repeat(")", n)
}

// sum: a tree of two kids each, so many leaves, no deeper than it must be.
func sum(leaves int) string {
	if leaves == 1 {
		return "1"
	}
	return "(" + sum(leaves/2) + " + " + sum(leaves-leaves/2) + ")"
}

func TestLiterals(t *testing.T) {
	for _, n := range []int64{0, 1, 7, 10, 100, 1000000, -1, -10, math.MaxInt64, math.MinInt64} {
		isExpr(t, strconv.FormatInt(n, 10), num(n))
	}
	isExpr(t, "TRUE", truth(1))
	isExpr(t, "FALSE", truth(0))
	for s, want := range map[string]string{
		`""`: "", `" "`: " ", `"hay"`: "hay", `"a  b "`: "a  b ", `"\""`: `"`, `"\\"`: `\`, `"\\\""`: `\"`, `"\\n"`: `\n`,
		`"TRUE"`: "TRUE", `"007"`: "007", `"(1 + 2)"`: "(1 + 2)", `"sixteen bytes so"`: "sixteen bytes so",
	} {
		isExpr(t, s, text(want))
	}
}

func TestFields(t *testing.T) {
	isExpr(t, "a.n", at("a", "n"))
	isExpr(t, "n.a", at("n", "a"))
	isExpr(t, "eightbyt.zzzzzzzz", at("eightbyt", "zzzzzzzz"))
	isExpr(t, "true.false", at("true", "false"))
	noExpr(t, api.ErrForm, "a", "a.", ".n", "a.5", "5.n", "a.-1", "a n", "a..n", "a.n.m", `a."n"`, `"a".n`,
		"a.N", "A.n", "a.TRUE", "TRUE.n", "a.(n)", "(a.n)", "(a).n")
	noExpr(t, api.ErrLarge, "ninebytes.n", "n.ninebytes")
}

func TestSignsTellTheOp(t *testing.T) {
	ops := map[string]int{
		"+": api.EAdd, "-": api.ESub, "*": api.EMul, "=": api.EEq, "!=": api.ENe,
		"<": api.ELt, "<=": api.ELe, "AND": api.EAnd, "OR": api.EOr,
	}
	for sign, op := range ops {
		isExpr(t, "(1 "+sign+" 2)", of(op, num(1), num(2)))
		isExpr(t, "(2 "+sign+" 1)", of(op, num(2), num(1)))
		isExpr(t, "(-1 "+sign+" -1)", of(op, num(-1), num(-1)))
		isExpr(t, "(a.n "+sign+" b.m)", of(op, at("a", "n"), at("b", "m")))
		isExpr(t, `("x" `+sign+` TRUE)`, of(op, text("x"), truth(1)))
		for other, inner := range ops {
			isExpr(t, "(1 "+sign+" (2 "+other+" 3))", of(op, num(1), of(inner, num(2), num(3))))
			isExpr(t, "((1 "+other+" 2) "+sign+" 3)", of(op, of(inner, num(1), num(2)), num(3)))
			noExpr(t, api.ErrForm, "(1 "+sign+" 2 "+other+" 3)", "(1 "+sign+" "+other+" 2)")
		}
		noExpr(t, api.ErrForm, sign, "("+sign+")", "1 "+sign+" 2", "("+sign+" 1 2)", "(1 2 "+sign+")", "(1 "+sign+")",
			"("+sign+" 1)", "(1 "+sign+" 2", "(1 "+sign+" 2))", "((1 "+sign+" 2)", "[1 "+sign+" 2]", `(1 "`+sign+`" 2)`)
	}
	for _, sign := range []string{"(", ")", "[", "]", ":", "|", ",", "!", ".", "NOT", "TRUE", "XOR", "ANY", "and", "or", "= =", "< =", "! ="} {
		noExpr(t, api.ErrForm, "(1 "+sign+" 2)")
	}
	noExpr(t, api.ErrWord, "(1 > 2)", "(1 / 2)", "(1 & 2)")
}

func TestNot(t *testing.T) {
	isExpr(t, "(NOT TRUE)", of(api.ENot, truth(1)))
	isExpr(t, "(NOT a.n)", of(api.ENot, at("a", "n")))
	isExpr(t, "(NOT (NOT 1))", of(api.ENot, of(api.ENot, num(1))))
	isExpr(t, "((NOT 1) AND (NOT 2))", of(api.EAnd, of(api.ENot, num(1)), of(api.ENot, num(2))))
	isExpr(t, "(NOT (1 AND 2))", of(api.ENot, of(api.EAnd, num(1), num(2))))
	noExpr(t, api.ErrForm, "NOT", "NOT 1", "(NOT)", "()", "(NOT 1 2)", "(NOT NOT 1)", "(1 NOT)", "(1 NOT 2)", "(NOT 1", "(NOT 1))",
		"(NOT 1 AND 2)", "((NOT) 1)", "(not 1)", `("NOT" 1)`, "(NOTTRUE)", "(! TRUE)")
}

func TestNoConditionByItsWords(t *testing.T) {
	noExpr(t, api.ErrForm, "", " ", "     ", "(", ")", "[", "1 2", "1 1", "a.n b.n", "TRUE FALSE", `"a" "b"`, `"a""b"`, "(5)", "((1 + 2))",
		"(1 2)", "(1)(2)", "(1 + 2)(1 + 2)", "(1 + 2) 3", "3 (1 + 2)", ")1 + 2(", "1,", ",1", "[1]", "a:b", "(1 + 2]", "- 1", "(- 1 + 2)",
		"+1", "(1 -2)", "(1 - (2)", "true", "false", "(1 + true)", "(true + 1)", "SEQ(a:b) WITHIN 5")
	for _, great := range []string{"YES", "NO", "SEQ", "WITHIN", "BY", "ANY", "AND", "OR", "XOR", "TRUEX", "XTRUE", "T", "TRU", "FALSEFAL"} {
		noExpr(t, api.ErrForm, great, "(NOT "+great+")", "("+great+" 1)", "("+great+" + 1)", "(1 + "+great+")")
	}
}

func TestNumbersAsShowWritesThem(t *testing.T) {
	for _, n := range []string{
		"00", "01", "007", "000", "-0", "-00", "-01", "-007", "00000000000000000000", "-00000000000000000001", "09223372036854775807",
	} {
		noExpr(t, api.ErrForm, n, " "+n+" ", "("+n+" + 1)", "(1 + "+n+")", "(1 +"+n+")", "(NOT "+n+")", "(a.n="+n+"AND 1)", "("+n+"AND 1)")
		noPattern(t, api.ErrForm, asking(n), asking("(1 < "+n+")"), "SEQ(a:b) WITHIN "+n, "SEQ(a:b) WITHIN"+n,
			"SEQ(a:b) WITHIN "+n+" BY k", "SEQ(a:b) WITHIN "+n+"ANY")
	}
	for _, n := range []int64{0, 10, 100, -10, 5} {
		s := strconv.FormatInt(n, 10)
		isExpr(t, "  "+s+"  ", num(n))
		isExpr(t, "("+s+"AND "+s+")", of(api.EAnd, num(n), num(n)))
		isExpr(t, "("+s+"="+s+")", of(api.EEq, num(n), num(n)))
	}
	noExpr(t, api.ErrLarge, "9223372036854775808", "-9223372036854775809", "(1 + 9223372036854775808)")
}

func TestDepth(t *testing.T) {
	for n := 1; n <= 3*api.MaxDepth; n++ {
		shapes := []string{
			nots(n-1, "TRUE"),
			strings.Repeat("(1 + ", n-1) + "a.n" + strings.Repeat(")", n-1),
			strings.Repeat("(", n-1) + `"x"` + strings.Repeat(" OR 1)", n-1),
		}
		if n > 1 {
			shapes = append(shapes, "(1 = "+nots(n-2, "TRUE")+")", "("+nots(n-2, "TRUE")+" = 1)")
		}
		for _, s := range shapes {
			if n > api.MaxDepth {
				noExpr(t, api.ErrLarge, s)
				noPattern(t, api.ErrLarge, asking(s))
			} else if x, err := Expr(s); err != nil || expr.Depth(x) != n {
				t.Errorf("P9.1: Expr(%s) = %+v, %v, not %d deep", s, x, err, n)
			}
		}
	}
}

func TestNodes(t *testing.T) {
	for leaves := 1; leaves <= 16; leaves++ {
		odd := sum(leaves)
		for s, nodes := range map[string]int{
			odd:                                 2*leaves - 1,
			strings.ReplaceAll(odd, "1", "a.n"): 2*leaves - 1,
			strings.ReplaceAll(odd, "1", `""`):  2*leaves - 1,
			strings.Replace(odd, "1", "(NOT TRUE)", 1): 2 * leaves,
		} {
			if nodes > api.MaxNodes {
				noExpr(t, api.ErrLarge, s)
				noPattern(t, api.ErrLarge, asking(s))
			} else if x, err := Expr(s); err != nil || len(expr.Nodes(x)) != nodes {
				t.Errorf("P9.1: Expr(%s) = %+v, %v, not of %d nodes", s, x, err, nodes)
			}
		}
	}
}
