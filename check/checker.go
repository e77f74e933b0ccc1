package check

import (
	"slices"

	"drogue/api"
	"drogue/kind"
	"drogue/table"
	"drogue/tree"
)

// checker is what a function is held against: the types of its program, which are asked as its own, and the program.
type checker struct {
	*table.Table
	prog api.Prog
	f    api.Func
}

// function: the diagnostics of the function. Statements are asked only where each name in them stands for one thing that is known.
func (c *checker) function() []api.Diag {
	if diags := c.names(); len(diags) > 0 {
		return diags
	}
	return c.blocks()
}

// names: what is told of the function's parameters, locals, result and blocks.
func (c *checker) names() []api.Diag {
	var diags []api.Diag
	tell := func(at, code int) { diags = append(diags, api.Diag{At: at, Code: code}) }
	vars := tree.Vars(c.f)
	for i, v := range vars {
		if tree.Find(vars, v.Name) < i {
			tell(c.f.At, api.DTwice)
		}
		if !c.Known(v.Type) {
			tell(c.f.At, api.DName)
		}
	}
	if !c.Known(c.f.Result) {
		tell(c.f.At, api.DName)
	}
	for i, b := range c.f.Blocks {
		if tree.Block(c.f, b.Name) < i {
			tell(b.At, api.DTwice)
		}
	}
	return diags
}

// blocks: what is told of the function's statements and ends.
func (c *checker) blocks() []api.Diag {
	var diags []api.Diag
	tell := func(at, code int) {
		if code != 0 {
			diags = append(diags, api.Diag{At: at, Code: code})
		}
	}
	for _, b := range c.f.Blocks {
		for _, s := range b.Stmts {
			tell(s.At, c.stmt(s))
		}
		tell(b.Term.At, c.term(b.Term))
	}
	return diags
}

// first: the first code that is told; 0: none is. None behind it is asked for: what is asked there may rest on it.
func first(asked ...func() int) int {
	for _, ask := range asked {
		if code := ask(); code != 0 {
			return code
		}
	}
	return 0
}

// when: that code is told, if something is wrong.
func when(code int, wrong func() bool) func() int {
	return func() int {
		if wrong() {
			return code
		}
		return 0
	}
}

// used is what the Args of a statement, or of an end, are, and its To; noughts: it has none.
type used struct {
	args []Typed
	to   Typed
}

// places: what the places of a statement, or of an end, are, and 0; else the code of the first one that has one.
func (c *checker) places(args []api.Place, to api.Place) (used, int) {
	var u used
	for _, p := range args {
		is, code := c.place(p)
		if code != 0 {
			return used{}, code
		}
		u.args = append(u.args, is)
	}
	if to.Local == "" {
		return u, 0
	}
	is, code := c.place(to)
	if code != 0 {
		return used{}, code
	}
	u.to = is
	return u, 0
}

// unmovable: is any of them none that is movable?
func (c *checker) unmovable(list []Typed) bool {
	return slices.ContainsFunc(list, func(is Typed) bool { return !c.movable(is) })
}

// fit: are they of those types, one by one?
func fit(list []Typed, types []string) bool {
	return slices.EqualFunc(list, types, func(is Typed, typ string) bool { return is.Type == typ })
}

// typesOf: the types of fields, or of parameters.
func typesOf(vars []api.Var) []string {
	var types []string
	for _, v := range vars {
		types = append(types, v.Type)
	}
	return types
}

func isInt(typ string) bool { return kind.Kind(typ) == kind.KInt }
