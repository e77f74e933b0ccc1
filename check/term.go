package check

import (
	"slices"

	"drogue/api"
	"drogue/tree"
)

// term: the code that is told of an end; 0: it is right.
func (c *checker) term(t api.Term) int {
	u, code := c.places(t.Args, t.To)
	return first(
		func() int { return code },
		func() int { return c.end(t, u) },
		when(api.DName, func() bool { return c.nowhere(t) }),
	)
}

// end: the code that is told of an end by its kind, but for its blocks.
func (c *checker) end(t api.Term, u used) int {
	switch t.Kind {
	case api.TIf:
		return first(when(api.DType, func() bool { return !isInt(u.args[0].Type) }))
	case api.TMatch:
		return c.match(t, u)
	case api.TCall, api.TCatch:
		return c.call(t, u)
	case api.TReturn:
		return first(
			when(api.DType, func() bool { return u.args[0].Type != c.f.Result }),
			when(api.DPlace, func() bool { return c.unmovable(u.args) }),
		)
	}
	return 0
}

// nowhere: does an end lead to a block that isn't there?
func (c *checker) nowhere(t api.Term) bool {
	missing := func(name string) bool { return tree.Block(c.f, name) < 0 }
	return slices.ContainsFunc(t.Blocks, missing) ||
		slices.ContainsFunc(t.Arms, func(a api.Arm) bool { return missing(a.Block) })
}

func (c *checker) match(t api.Term, u used) int {
	e, ok := c.Enum(u.args[0].Type)
	sameName := func(a api.Arm, v api.Var) bool { return a.Variant == v.Name }
	return first(
		when(api.DPlace, func() bool { return !bare(t.Args[0]) }),
		when(api.DType, func() bool { return !ok || !slices.EqualFunc(t.Arms, e.Variants, sameName) }),
		func() int { return c.arms(t.Arms, e.Variants) },
	)
}

// arms: the first code that is told of arms, whose variants are these.
func (c *checker) arms(arms []api.Arm, variants []api.Var) int {
	var asked []func() int
	for i, a := range arms {
		asked = append(asked, func() int { return c.arm(a, variants[i].Type) })
	}
	return first(asked...)
}

// arm: the code that is told of an arm, whose variant has that payload, or none.
func (c *checker) arm(a api.Arm, payload string) int {
	takes := a.Local != ""
	typ, ok := c.local(a.Local)
	return first(
		when(api.DType, func() bool { return takes != (payload != "") }),
		when(api.DName, func() bool { return takes && !ok }),
		when(api.DType, func() bool { return takes && typ != payload }),
	)
}

// call: the code that is told of a call or a catch.
func (c *checker) call(t api.Term, u used) int {
	i := Function(c.prog, t.Name)
	if i < 0 {
		return api.DName
	}
	called := c.prog.Funcs[i]
	return first(
		when(api.DType, func() bool { return !fit(u.args, typesOf(called.Params)) }),
		when(api.DPlace, func() bool { return c.unmovable(u.args) || !bare(t.To) }),
		when(api.DType, func() bool { return t.Kind == api.TCatch && !isInt(called.Result) }),
		when(api.DType, func() bool { return u.to.Type != called.Result }),
	)
}
