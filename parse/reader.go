package parse

import (
	"iter"
	"strings"

	"pastern/api"
	"pastern/show"
	"pastern/word"
)

// A reader goes through the words of a text from the left. The first error
// counts: behind it no words are left, so that nothing else is found there.
type reader struct {
	rest  []api.Word
	nodes int // how many the condition that is read has so far
	err   error
}

func read(s string) *reader {
	l, err := word.Cut(s)
	r := &reader{err: err}
	for w, text := range written(l, s) {
		if w.Kind == api.WNum && text != show.Value(number(w)) {
			w.Kind = 0 // so it fits nowhere, and is told only once it is read
		}
		r.rest = append(r.rest, w)
	}
	return r
}

// written gives each word of s with the bytes that it was cut from: a number
// alone doesn't tell how it was written.
func written(l []api.Word, s string) iter.Seq2[api.Word, string] {
	return func(yield func(api.Word, string) bool) {
		for i, w := range l {
			end := len(s)
			if i+1 < len(l) {
				end = l[i+1].At
			}
			if !yield(w, strings.TrimRight(s[w.At:end], " ")) {
				return
			}
		}
	}
}

func number(w api.Word) api.Value { return api.Value{Kind: api.Int, N: w.N} }

// is tells whether w is that sign or great word: a text that reads alike isn't.
func is(w api.Word, t string) bool {
	return (w.Kind == api.WSign || w.Kind == api.WGreat) && w.Text == t
}

func (r *reader) fail(err error) {
	if r.err == nil {
		r.err = err
	}
	r.rest = nil
}

// head: the next word, of no Kind if there is none.
func (r *reader) head() api.Word {
	if len(r.rest) == 0 {
		return api.Word{}
	}
	return r.rest[0]
}

// eat takes the next word if it is t, and tells whether it is.
func (r *reader) eat(t string) bool {
	there := is(r.head(), t)
	if there {
		r.rest = r.rest[1:]
	}
	return there
}

func (r *reader) must(l ...string) {
	for _, t := range l {
		if !r.eat(t) {
			r.fail(api.ErrForm)
		}
	}
}

// take: the next word, which must be of that kind.
func (r *reader) take(kind int) api.Word {
	w := r.head()
	if w.Kind != kind {
		r.fail(api.ErrForm)
		return api.Word{}
	}
	r.rest = r.rest[1:]
	return w
}

func (r *reader) name() string { return r.take(api.WName).Text }

func (r *reader) end() {
	if len(r.rest) > 0 {
		r.fail(api.ErrForm)
	}
}

// parted gives a turn for each part of a row: for the first one whatever
// comes, for another one as long as the sign stands between.
func (r *reader) parted(sign string) func(yield func() bool) {
	return func(yield func() bool) {
		for yield() && r.eat(sign) {
		}
	}
}
