package word

import (
	"iter"

	"pastern/api"
)

// words gives the words of s from the left, each at its place. An error comes
// in place of the word that it is about, and nothing behind it.
func words(s string) iter.Seq2[api.Word, error] {
	return func(yield func(api.Word, error) bool) {
		at := 0
		for at < len(s) {
			if s[at] == ' ' {
				at++
				continue
			}
			w, length, err := first(s[at:])
			if err != nil {
				yield(api.Word{}, err)
				return
			}
			w.At = at
			if !yield(w, nil) {
				return
			}
			at += length
		}
	}
}

// first cuts the word that s begins with, and tells how many bytes it takes up.
// There is a byte, and it is no blank.
func first(s string) (api.Word, int, error) {
	switch {
	case small.has(s[0]):
		return name(s)
	case great.has(s[0]):
		return greatWord(s)
	case isNumber(s):
		return number(s)
	case s[0] == '"':
		return text(s)
	}
	return sign(s)
}
