package tree

import (
	"drogue/api"
	"drogue/kind"
	"drogue/lex"
)

// count is how many there may be of something; noughts: none.
type count struct{ least, most int }

// parts is what a statement or an end has by its kind; of what is nought there it has none.
type parts struct {
	to, number, name, variant bool
	args, blocks, arms        count
}

// Right: is a program shaped?
func Right(p api.Prog) bool {
	n := count{0, api.MaxDecls}
	return every(p.Structs, n, rightStruct) && every(p.Enums, n, rightEnum) && every(p.Funcs, n, rightFunc)
}

func rightStruct(s api.Struct) bool {
	return lex.Name(s.Name) && rightVars(s.Fields, count{0, api.MaxParts}, kind.Plain)
}

func rightEnum(e api.Enum) bool {
	payload := func(t string) bool { return t == "" || kind.Plain(t) }
	return lex.Name(e.Name) && rightVars(e.Variants, count{1, api.MaxParts}, payload)
}

func rightFunc(f api.Func) bool {
	anyType := func(t string) bool { return kind.Kind(t) != kind.KNone }
	left := api.MaxLocals - len(f.Params)
	return lex.Name(f.Name) && kind.Plain(f.Result) &&
		rightVars(f.Params, count{0, api.MaxParts}, anyType) &&
		rightVars(f.Locals, count{0, left}, anyType) &&
		every(f.Blocks, count{1, api.MaxBlocks}, rightBlock)
}

func rightVars(list []api.Var, n count, rightType func(string) bool) bool {
	return every(list, n, func(v api.Var) bool { return lex.Name(v.Name) && rightType(v.Type) })
}

func rightBlock(b api.Block) bool {
	return lex.Name(b.Name) && every(b.Stmts, count{0, api.MaxStmts}, rightStmt) && rightTerm(b.Term)
}

func rightStmt(s api.Stmt) bool {
	has, ok := stmtParts(s.Kind)
	return ok && rightPlace(s.To, has.to) && rightNumber(s.N, has.number) &&
		rightName(s.Name, has.name) && rightName(s.Variant, has.variant) &&
		every(s.Args, has.args, isPlace)
}

func rightTerm(t api.Term) bool {
	has, ok := termParts(t.Kind)
	return ok && rightPlace(t.To, has.to) && rightName(t.Name, has.name) &&
		every(t.Args, has.args, isPlace) &&
		every(t.Blocks, has.blocks, lex.Name) &&
		every(t.Arms, has.arms, rightArm)
}

func rightArm(a api.Arm) bool {
	return lex.Name(a.Variant) && (a.Local == "" || lex.Name(a.Local)) && lex.Name(a.Block)
}

// stmtParts: what a statement of a kind has. Is there such a kind?
func stmtParts(k int) (parts, bool) {
	switch k {
	case api.SNum:
		return parts{to: true, number: true}, true
	case api.SAdd, api.SSub, api.SLess:
		return parts{to: true, args: count{2, 2}}, true
	case api.SUse, api.SBox, api.SRef, api.SMut:
		return parts{to: true, args: count{1, 1}}, true
	case api.SNew:
		return parts{to: true, name: true, args: count{0, api.MaxParts}}, true
	case api.STag:
		return parts{to: true, name: true, variant: true, args: count{0, 1}}, true
	case api.SOut:
		return parts{args: count{1, 1}}, true
	}
	return parts{}, false
}

// termParts: what an end of a kind has. Is there such a kind?
func termParts(k int) (parts, bool) {
	switch k {
	case api.TGoto, api.TCheck:
		return parts{blocks: count{1, 1}}, true
	case api.TIf:
		return parts{args: count{1, 1}, blocks: count{2, 2}}, true
	case api.TMatch:
		return parts{args: count{1, 1}, arms: count{1, api.MaxParts}}, true
	case api.TCall, api.TCatch:
		return parts{to: true, name: true, args: count{0, api.MaxParts}, blocks: count{1, 1}}, true
	case api.TReturn:
		return parts{args: count{1, 1}}, true
	}
	return parts{}, false
}

// rightPlace: a place where there is to be one, else noughts.
func rightPlace(p api.Place, has bool) bool {
	if !has {
		return p.Local == "" && len(p.Steps) == 0
	}
	return isPlace(p)
}

// rightName: a name where there is to be one, else no signs.
func rightName(s string, has bool) bool {
	if !has {
		return s == ""
	}
	return lex.Name(s)
}

// rightNumber: a number within its bounds where there is to be one, else 0.
func rightNumber(n int64, has bool) bool {
	if !has {
		return n == 0
	}
	return n >= -api.MaxNum && n <= api.MaxNum
}

// isPlace: is it a place?
func isPlace(p api.Place) bool {
	return lex.Name(p.Local) && every(p.Steps, count{0, api.MaxSteps}, func(step string) bool {
		return step == "*" || lex.Name(step)
	})
}
