package show

import (
	"iter"
	"strings"
)

// Pieces of a text, from the left. What a part is made of is told as pieces, and
// only what is whole becomes a text: nothing is put together twice.
type pieces iter.Seq[string]

func (p pieces) whole() string {
	var out strings.Builder
	for piece := range p {
		out.WriteString(piece)
	}
	return out.String()
}

func plain(l ...string) pieces {
	return func(yield func(string) bool) {
		for _, piece := range l {
			if !yield(piece) {
				return
			}
		}
	}
}

func plainIf(there bool, l ...string) pieces {
	if !there {
		return plain()
	}
	return plain(l...)
}

// escaped goes by bytes: what is shown is no rune of more than one.
func escaped(s string) pieces {
	return func(yield func(string) bool) {
		for i := range len(s) {
			if (s[i] == '"' || s[i] == '\\') && !yield(`\`) {
				return
			}
			if !yield(s[i : i+1]) {
				return
			}
		}
	}
}

// all gives the pieces of each part, one part behind the other.
func all(parts ...pieces) pieces {
	return func(yield func(string) bool) {
		for _, part := range parts {
			for piece := range part {
				if !yield(piece) {
					return
				}
			}
		}
	}
}
