package word

import (
	"strconv"
	"strings"

	"pastern/api"
	"pastern/value"
)

// A great word has a limit of its own: it is no name.
const maxGreat = 8

// A span of bytes, both ends in it.
type span struct{ low, high byte }

var (
	small   = span{'a', 'z'}
	great   = span{'A', 'Z'}
	digit   = span{'0', '9'}
	printed = span{32, 126}
)

// Of two signs that begin alike the longer one stands ahead: it is taken.
var signs = [...]string{
	"!=", "<=",
	"(", ")", "[", "]", ":", "|", ",", "+", "!", ".", "-", "*", "=", "<",
}

func (p span) has(b byte) bool { return p.low <= b && b <= p.high }

// lead: the bytes of the span that s begins with, as many as stand side by side.
func (p span) lead(s string) string {
	for i := range len(s) {
		if !p.has(s[i]) {
			return s[:i]
		}
	}
	return s
}

// Texts are cloned: a word that is kept is not to keep the whole text alive.

func name(s string) (api.Word, int, error) {
	t := small.lead(s)
	if !value.Name(t) {
		return api.Word{}, 0, api.ErrLarge
	}
	return api.Word{Kind: api.WName, Text: strings.Clone(t)}, len(t), nil
}

func greatWord(s string) (api.Word, int, error) {
	t := great.lead(s)
	if len(t) > maxGreat {
		return api.Word{}, 0, api.ErrLarge
	}
	return api.Word{Kind: api.WGreat, Text: strings.Clone(t)}, len(t), nil
}

// isNumber: a `-` begins a number only if a digit is right behind it.
func isNumber(s string) bool {
	rest := strings.TrimPrefix(s, "-")
	return rest != "" && digit.has(rest[0])
}

func number(s string) (api.Word, int, error) {
	minus := 0
	if s[0] == '-' {
		minus = 1
	}
	length := minus + len(digit.lead(s[minus:]))
	n, err := strconv.ParseInt(s[:length], 10, 64)
	if err != nil {
		return api.Word{}, 0, api.ErrLarge
	}
	return api.Word{Kind: api.WNum, N: n}, length, nil
}

// text looks for the end ahead of the length: what doesn't end is no text, so
// it is not one that is too large either.
func text(s string) (api.Word, int, error) {
	length := textLength(s)
	if length == 0 {
		return api.Word{}, 0, api.ErrWord
	}
	t := bare(s[1 : length-1])
	if !value.Is(api.Value{Kind: api.Str, S: t}) {
		return api.Word{}, 0, api.ErrLarge
	}
	return api.Word{Kind: api.WText, Text: t}, length, nil
}

// textLength: how many bytes the text takes up that s begins with, both `"` and
// each `\` counted; 0, if it doesn't end as a text does.
func textLength(s string) int {
	for i := 1; i < len(s); i++ {
		switch {
		case s[i] == '"':
			return i + 1
		case s[i] == '\\':
			i++
			if i == len(s) || s[i] != '"' && s[i] != '\\' {
				return 0
			}
		case !printed.has(s[i]):
			return 0
		}
	}
	return 0
}

// bare: what stands between the `"`, without the `\` that others stand behind.
// One byte past the limit tells as much as all that follow.
func bare(s string) string {
	var out strings.Builder
	for i := 0; i < len(s) && out.Len() <= api.MaxText; i++ {
		if s[i] == '\\' {
			i++
		}
		out.WriteByte(s[i])
	}
	return out.String()
}

func sign(s string) (api.Word, int, error) {
	for _, t := range signs {
		if strings.HasPrefix(s, t) {
			return api.Word{Kind: api.WSign, Text: t}, len(t), nil
		}
	}
	return api.Word{}, 0, api.ErrWord
}
