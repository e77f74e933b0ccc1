package tree

import (
	"slices"

	"drogue/api"
)

// Clone: a program that is the same.
func Clone(p api.Prog) api.Prog {
	return api.Prog{
		Structs: anew(p.Structs, func(s api.Struct) api.Struct {
			s.Fields = slices.Clone(s.Fields)
			return s
		}),
		Enums: anew(p.Enums, func(e api.Enum) api.Enum {
			e.Variants = slices.Clone(e.Variants)
			return e
		}),
		Funcs: anew(p.Funcs, cloneFunc),
	}
}

func cloneFunc(f api.Func) api.Func {
	f.Params = slices.Clone(f.Params)
	f.Locals = slices.Clone(f.Locals)
	f.Blocks = anew(f.Blocks, cloneBlock)
	return f
}

func cloneBlock(b api.Block) api.Block {
	b.Stmts = anew(b.Stmts, cloneStmt)
	b.Term = cloneTerm(b.Term)
	return b
}

func cloneStmt(s api.Stmt) api.Stmt {
	s.To = clonePlace(s.To)
	s.Args = anew(s.Args, clonePlace)
	return s
}

func cloneTerm(t api.Term) api.Term {
	t.To = clonePlace(t.To)
	t.Args = anew(t.Args, clonePlace)
	t.Blocks = slices.Clone(t.Blocks)
	t.Arms = slices.Clone(t.Arms)
	return t
}

func clonePlace(p api.Place) api.Place {
	p.Steps = slices.Clone(p.Steps)
	return p
}
