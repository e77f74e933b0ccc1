package print

import (
	"strings"

	"drogue/api"
)

// writer is a text, at whose end tokens are written.
type writer struct {
	strings.Builder
	apart bool // is what comes next to stand apart from what is there?
}

// tokens: with the blanks that are due between them.
func (w *writer) tokens(list ...string) {
	for _, token := range list {
		if w.apart && !clings(token) {
			w.WriteByte(' ')
		}
		w.WriteString(token)
		w.apart = token != "(" && token != "."
	}
}

// clings: has a token no blank ahead of it? Each ( is one of a call, a catch or a function.
func clings(token string) bool {
	switch token {
	case ";", ",", ")", ":", ".", "(":
		return true
	}
	return false
}

// series: a list, with a , between each two.
func series[T any](w *writer, list []T, write func(T)) {
	for i, x := range list {
		if i > 0 {
			w.tokens(",")
		}
		write(x)
	}
}

// line: a line with a tab ahead of its tokens.
func (w *writer) line(tokens ...string) {
	w.tab()
	w.tokens(tokens...)
	w.newline()
}

func (w *writer) tab() { w.WriteByte('\t') }

func (w *writer) newline() {
	w.WriteByte('\n')
	w.apart = false
}

// open: an empty line ahead of a declaration, but not of the first one.
func (w *writer) open() {
	if w.Len() > 0 {
		w.newline()
	}
}

// full: is the text longer than a program's may be?
func (w *writer) full() bool { return w.Len() > api.MaxText }
