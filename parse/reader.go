package parse

import (
	"slices"

	"drogue/api"
	"drogue/lex"
)

// reader reads tokens from the left, one token ahead.
type reader struct {
	// Behind a token that can't stand where it stands nothing is left: so all that reads on comes to its end, and needn't ask.
	rest        []lex.Token
	end         int      // the text's length
	wrong, many api.Diag // what can't stand there, and the earliest that is too much; noughts: there is none
}

// diag: what is told of what was read; noughts: nothing.
func (r *reader) diag() api.Diag {
	// What is too much counts only in a text that goes by the grammar to its end.
	if r.wrong != (api.Diag{}) {
		return r.wrong
	}
	return r.many
}

// at: where the next token stands, or where the text ends.
func (r *reader) at() int {
	if len(r.rest) == 0 {
		return r.end
	}
	return r.rest[0].At
}

// sees: is there a next token that may stand there?
func (r *reader) sees(may func(lex.Token) bool) bool { return len(r.rest) > 0 && may(r.rest[0]) }

// take: the next token, which must be one that may stand there.
func (r *reader) take(may func(lex.Token) bool) lex.Token {
	if !r.sees(may) {
		r.fail()
		return lex.Token{}
	}
	t := r.rest[0]
	r.rest = r.rest[1:]
	return t
}

// passes: is that the next token? It is passed over then.
func (r *reader) passes(text string) bool {
	there := r.sees(of(text))
	if there {
		r.rest = r.rest[1:]
	}
	return there
}

// fail: the next token can't stand there.
func (r *reader) fail() {
	// Where nothing is left since an earlier one, the earlier one holds.
	if r.wrong == (api.Diag{}) {
		r.wrong = api.Diag{At: r.at(), Code: api.DSyntax}
	}
	r.rest = nil
}

// bound: there are so many of the thing at a place, and so many there may be.
func (r *reader) bound(n, most, at int) {
	if n > most && (r.many == (api.Diag{}) || at < r.many.At) {
		r.many = api.Diag{At: at, Code: api.DMany}
	}
}

// open: goes into a bracket, and answers what closes it.
func (r *reader) open(left, right string) func() {
	r.take(of(left))
	return func() { r.take(of(right)) }
}

// while: does another one come? It does as long as the next token may stand there.
func (r *reader) while(may func(lex.Token) bool) func() bool {
	return func() bool { return r.sees(may) }
}

// behind: does another one come? It does behind that, which is passed over.
func (r *reader) behind(text string) func() bool {
	return func() bool { return r.passes(text) }
}

// first: does another one come? The first one must, whatever stands there.
func first(more func() bool) func() bool {
	begun := false
	return func() bool {
		if begun {
			return more()
		}
		begun = true
		return true
	}
}

// of: may only these words and signs stand there?
func of(texts ...string) func(lex.Token) bool {
	return func(t lex.Token) bool { return slices.Contains(texts, t.Text) }
}

func isName(t lex.Token) bool { return t.Kind == lex.TName }

// rows: what is read, one after the other, as long as another one comes.
func rows[T any](r *reader, most int, more func() bool, read func() T) []T {
	var list []T
	for more() {
		list = another(r, list, most, read)
	}
	return list
}

// another: a list, and behind it what is read.
func another[T any](r *reader, list []T, most int, read func() T) []T {
	r.bound(len(list)+1, most, r.at())
	return append(list, read())
}

// series: at least one, with a , between each two.
func series[T any](r *reader, read func() T) []T {
	return rows(r, api.MaxParts, first(r.behind(",")), read)
}

// bracketed: a series in ( ), or nothing there.
func bracketed[T any](r *reader, read func() T) []T {
	defer r.open("(", ")")()
	if !r.sees(isName) {
		return nil
	}
	return series(r, read)
}

// some: so many, one after the other.
func some[T any](n int, read func() T) []T {
	var list []T
	for range n {
		list = append(list, read())
	}
	return list
}
