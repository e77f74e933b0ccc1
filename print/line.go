package print

import (
	"strconv"

	"drogue/api"
)

func (w *writer) stmt(s api.Stmt) {
	if s.Kind != api.SOut {
		w.place(s.To)
		w.tokens("=")
	}
	switch s.Kind {
	case api.SNum:
		w.tokens(strconv.FormatInt(s.N, 10))
	case api.SNew:
		w.tokens("new", s.Name)
	case api.STag:
		w.tokens("tag", s.Name, ".", s.Variant)
	default:
		w.tokens(stmtWord(s.Kind))
	}
	w.places(s.Args)
	w.tokens(";")
}

// stmtWord: the word of the statements that have nothing but places behind it.
func stmtWord(k int) string {
	switch k {
	case api.SAdd:
		return "add"
	case api.SSub:
		return "sub"
	case api.SLess:
		return "less"
	case api.SUse:
		return "use"
	case api.SBox:
		return "box"
	case api.SRef:
		return "ref"
	case api.SMut:
		return "mut"
	}
	return "out"
}

func (w *writer) term(t api.Term) {
	w.tokens(termWord(t.Kind))
	switch t.Kind {
	case api.TCall, api.TCatch:
		w.place(t.To)
		w.tokens("=", t.Name, "(")
		series(w, t.Args, w.place)
		w.tokens(")")
	default:
		w.places(t.Args)
	}
	w.tokens(t.Blocks...)
	series(w, t.Arms, w.arm)
	w.tokens(";")
}

func termWord(k int) string {
	switch k {
	case api.TGoto:
		return "goto"
	case api.TIf:
		return "if"
	case api.TMatch:
		return "match"
	case api.TCheck:
		return "check"
	case api.TCall:
		return "call"
	case api.TCatch:
		return "catch"
	}
	return "return"
}

func (w *writer) arm(a api.Arm) {
	w.tokens(a.Variant)
	if a.Local != "" {
		w.tokens(a.Local)
	}
	w.tokens(":", a.Block)
}

func (w *writer) places(list []api.Place) {
	for _, p := range list {
		w.place(p)
	}
}

func (w *writer) place(p api.Place) {
	w.tokens(p.Local)
	for _, step := range p.Steps {
		w.tokens(".", step)
	}
}
