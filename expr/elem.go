package expr

import (
	"slices"

	"pastern/api"
	"pastern/value"
)

// isRow asks for the number first: nothing long is looked at.
func isRow(l []api.Elem) bool {
	if len(l) > api.MaxElems || !parted(l) {
		return false
	}
	for i, e := range l {
		if !isElem(e) || slices.ContainsFunc(l[:i], aliased(e.Alias)) {
			return false
		}
	}
	return true
}

// parted tells whether each Not stands between two elements that aren't. What
// lies outside counts as a Not: so none is first, none is last, and a row has
// at least one element.
func parted(l []api.Elem) bool {
	not := true
	for _, e := range l {
		if not && e.Not {
			return false
		}
		not = e.Not
	}
	return !not
}

func aliased(alias string) func(api.Elem) bool {
	return func(e api.Elem) bool { return e.Alias == alias }
}

func isElem(e api.Elem) bool {
	return value.Name(e.Alias) && areTypes(e.Types) &&
		!(e.Plus && e.Not) &&
		(Same(e.Cond, api.Expr{}) || Is(e.Cond))
}

func areTypes(l []string) bool {
	return 1 <= len(l) && len(l) <= api.MaxAlts &&
		value.Rise(l) && !slices.ContainsFunc(l, isNoName)
}

func isNoName(s string) bool { return !value.Name(s) }

func sameElem(a, b api.Elem) bool {
	return a.Alias == b.Alias && a.Plus == b.Plus && a.Not == b.Not &&
		slices.Equal(a.Types, b.Types) && Same(a.Cond, b.Cond)
}
