package show

import (
	"strconv"
	"strings"

	"pastern/api"
)

// The signs that stand between two kids, by Op.
var signs = [...]string{
	api.EAdd: "+",
	api.ESub: "-",
	api.EMul: "*",
	api.EEq:  "=",
	api.ENe:  "!=",
	api.ELt:  "<",
	api.ELe:  "<=",
	api.EAnd: "AND",
	api.EOr:  "OR",
}

// What comes in here is well-formed: the calls have asked for it ahead.

func literal(v api.Value) pieces {
	switch v.Kind {
	case api.Str:
		return all(plain(`"`), escaped(v.S), plain(`"`))
	case api.Bool:
		return plain(truth(v.N == 1))
	}
	return plain(strconv.FormatInt(v.N, 10))
}

func truth(b bool) string {
	if b {
		return "TRUE"
	}
	return "FALSE"
}

func condition(x api.Expr) pieces {
	switch x.Op {
	case api.ELit:
		return literal(x.Val)
	case api.EField:
		return plain(x.Alias, ".", x.Field)
	case api.ENot:
		return all(plain("(NOT "), condition(x.Kids[0]), plain(")"))
	}
	return all(
		plain("("), condition(x.Kids[0]),
		plain(" ", signs[x.Op], " "), condition(x.Kids[1]), plain(")"))
}

func pattern(p api.Pattern) pieces {
	return all(
		plain("SEQ("), row(p.Elems),
		plain(") WITHIN ", strconv.Itoa(p.Within)),
		plainIf(p.By != "", " BY ", p.By),
		plainIf(p.Any, " ANY"))
}

func row(l []api.Elem) pieces {
	var parts []pieces
	for i, e := range l {
		parts = append(parts, plainIf(i > 0, ", "), element(e))
	}
	return all(parts...)
}

func element(e api.Elem) pieces {
	return all(
		plainIf(e.Not, "!"),
		plain(e.Alias, ":", strings.Join(e.Types, "|")),
		plainIf(e.Plus, "+"),
		asked(e.Cond))
}

// asked: of an element's condition that is zero, nothing.
func asked(x api.Expr) pieces {
	if x.Op == 0 {
		return plain()
	}
	return all(plain("["), condition(x), plain("]"))
}
