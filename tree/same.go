package tree

import (
	"slices"

	"drogue/api"
)

// Same: are two programs the same?
func Same(a, b api.Prog) bool {
	return slices.EqualFunc(a.Structs, b.Structs, sameStruct) &&
		slices.EqualFunc(a.Enums, b.Enums, sameEnum) &&
		slices.EqualFunc(a.Funcs, b.Funcs, sameFunc)
}

func sameStruct(a, b api.Struct) bool {
	return a.Name == b.Name && a.Safe == b.Safe && a.Hook == b.Hook && slices.Equal(a.Fields, b.Fields)
}

func sameEnum(a, b api.Enum) bool {
	return a.Name == b.Name && slices.Equal(a.Variants, b.Variants)
}

func sameFunc(a, b api.Func) bool {
	return a.Name == b.Name && a.Result == b.Result &&
		slices.Equal(a.Params, b.Params) && slices.Equal(a.Locals, b.Locals) &&
		slices.EqualFunc(a.Blocks, b.Blocks, sameBlock)
}

func sameBlock(a, b api.Block) bool {
	return a.Name == b.Name && slices.EqualFunc(a.Stmts, b.Stmts, sameStmt) && sameTerm(a.Term, b.Term)
}

func sameStmt(a, b api.Stmt) bool {
	return a.Kind == b.Kind && a.N == b.N && a.Name == b.Name && a.Variant == b.Variant &&
		Equal(a.To, b.To) && slices.EqualFunc(a.Args, b.Args, Equal)
}

func sameTerm(a, b api.Term) bool {
	return a.Kind == b.Kind && a.Name == b.Name &&
		Equal(a.To, b.To) && slices.EqualFunc(a.Args, b.Args, Equal) &&
		slices.Equal(a.Blocks, b.Blocks) && slices.Equal(a.Arms, b.Arms)
}
