package parse

import (
	"drogue/api"
	"drogue/lex"
)

func (r *reader) block() api.Block {
	b := api.Block{At: r.at(), Name: r.name()}
	r.take(of(":"))
	begins := func(t lex.Token) bool { return isName(t) || t.Text == "out" }
	b.Stmts = rows(r, api.MaxStmts, r.while(begins), r.stmt)
	b.Term = r.term()
	return b
}

func (r *reader) stmt() api.Stmt {
	s := api.Stmt{At: r.at()}
	if r.passes("out") {
		s.Kind = api.SOut
		s.Args = some(1, r.place)
	} else {
		s.To = r.place()
		r.take(of("="))
		r.value(&s)
	}
	r.take(of(";"))
	return s
}

// value: what stands behind a statement's =.
func (r *reader) value(s *api.Stmt) {
	t := r.take(func(t lex.Token) bool { return stmtKind(t) != 0 })
	s.Kind = stmtKind(t)
	switch s.Kind {
	case api.SNum:
		s.N = t.N
	case api.SAdd, api.SSub, api.SLess:
		s.Args = some(2, r.place)
	case api.SUse, api.SBox, api.SRef, api.SMut:
		s.Args = some(1, r.place)
	case api.SNew:
		s.Name = r.name()
		s.Args = rows(r, api.MaxParts, r.while(isName), r.place)
	case api.STag:
		r.tag(s)
	}
}

func (r *reader) tag(s *api.Stmt) {
	s.Name = r.name()
	r.take(of("."))
	s.Variant = r.name()
	if r.sees(isName) {
		s.Args = some(1, r.place)
	}
}

// stmtKind: the kind of the statements whose value begins with that; 0: there are none.
func stmtKind(t lex.Token) int {
	switch t.Text {
	case "add":
		return api.SAdd
	case "sub":
		return api.SSub
	case "less":
		return api.SLess
	case "use":
		return api.SUse
	case "box":
		return api.SBox
	case "new":
		return api.SNew
	case "tag":
		return api.STag
	case "ref":
		return api.SRef
	case "mut":
		return api.SMut
	}
	if t.Kind == lex.TNum {
		return api.SNum
	}
	return 0
}

func (r *reader) term() api.Term {
	e := api.Term{At: r.at()}
	e.Kind = termKind(r.take(func(t lex.Token) bool { return termKind(t) != 0 }))
	switch e.Kind {
	case api.TGoto, api.TCheck:
		e.Blocks = some(1, r.name)
	case api.TIf:
		e.Args = some(1, r.place)
		e.Blocks = some(2, r.name)
	case api.TMatch:
		e.Args = some(1, r.place)
		e.Arms = series(r, r.arm)
	case api.TCall, api.TCatch:
		e.To = r.place()
		r.take(of("="))
		e.Name = r.name()
		e.Args = bracketed(r, r.place)
		e.Blocks = some(1, r.name)
	case api.TReturn:
		e.Args = some(1, r.place)
	}
	r.take(of(";"))
	return e
}

// termKind: the kind of the ends that begin with that; 0: there are none.
func termKind(t lex.Token) int {
	switch t.Text {
	case "goto":
		return api.TGoto
	case "if":
		return api.TIf
	case "match":
		return api.TMatch
	case "check":
		return api.TCheck
	case "call":
		return api.TCall
	case "catch":
		return api.TCatch
	case "return":
		return api.TReturn
	}
	return 0
}

func (r *reader) arm() api.Arm {
	a := api.Arm{Variant: r.name()}
	if r.sees(isName) {
		a.Local = r.name()
	}
	r.take(of(":"))
	a.Block = r.name()
	return a
}
