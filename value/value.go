// Package value: values of three kinds: see doc/01-value.md.
package value

import (
	"pastern/api"
)

// Is: see the chapter.
func Is(v api.Value) bool {
	switch v.Kind {
	case api.Int:
		return v.S == ""
	case api.Str:
		return v.N == 0 && isText(v.S)
	case api.Bool:
		return span[int64]{0, 1}.has(v.N) && v.S == ""
	}
	return false
}

// Same: see the chapter.
func Same(a, b api.Value) bool { return a == b }

// Zero: see the chapter.
func Zero(kind int) api.Value {
	switch kind {
	case api.Int, api.Str, api.Bool:
		return api.Value{Kind: kind}
	}
	return api.Value{}
}

// Name: see the chapter.
func Name(s string) bool {
	return span[int]{1, api.MaxName}.has(len(s)) && allIn(s, span[byte]{'a', 'z'})
}

func isText(s string) bool {
	return len(s) <= api.MaxText && allIn(s, span[byte]{32, 126})
}

// Rise: see the chapter.
func Rise(l []string) bool {
	for ahead, behind := range row[string](l).pairs() {
		if ahead >= behind {
			return false
		}
	}
	return true
}

// With: see the chapter.
func With(l []string, s string) []string {
	out := make([]string, 0, len(l)+1)
	for x := range row[string](l).with(s) {
		out = append(out, x)
	}
	return out
}
