package check

import (
	"drogue/api"
	"drogue/kind"
)

// stmt: the code that is told of a statement; 0: it is right.
func (c *checker) stmt(s api.Stmt) int {
	u, code := c.places(s.Args, s.To)
	return first(
		func() int { return code },
		func() int { return c.types(s, u) },
		when(api.DPlace, func() bool { return c.misplaced(s, u) }),
		when(api.DPlace, func() bool { return !bare(s.To) && c.unstorable(u.to) }),
	)
}

// types: the code that is told of a statement whose types don't fit.
func (c *checker) types(s api.Stmt, u used) int {
	value, code := c.value(s, u.args)
	return first(
		func() int { return code },
		when(api.DType, func() bool { return s.Kind != api.SOut && u.to.Type != value }),
	)
}

// value: the type of what a statement makes of its Args, and 0; no signs and a code, if they don't fit.
func (c *checker) value(s api.Stmt, args []Typed) (string, int) {
	switch s.Kind {
	case api.SAdd, api.SSub, api.SLess, api.SOut:
		for _, is := range args {
			if !isInt(is.Type) {
				return "", api.DType
			}
		}
		fallthrough
	case api.SNum:
		return "int", 0
	case api.SNew, api.STag:
		return c.whole(s, args)
	}
	return one(s.Kind, args[0].Type)
}

// whole: the type of the struct or the enum that a statement makes, and 0; no signs and a code.
func (c *checker) whole(s api.Stmt, args []Typed) (string, int) {
	parts, ok := c.parts(s)
	code := first(
		when(api.DName, func() bool { return !ok }),
		when(api.DType, func() bool { return !fit(args, parts) }),
	)
	if code != 0 {
		return "", code
	}
	return s.Name, 0
}

// parts: the types of what a struct, or an enum's variant, is made of. Is there such a one?
func (c *checker) parts(s api.Stmt) ([]string, bool) {
	if s.Kind == api.SNew {
		made, ok := c.Struct(s.Name)
		return typesOf(made.Fields), ok
	}
	payload, _, ok := c.Variant(s.Name, s.Variant)
	if payload == "" {
		return nil, ok
	}
	return []string{payload}, ok
}

// one: the type of what a statement of a kind makes of one Arg of a type, and 0; no signs and a code.
func one(k int, arg string) (string, int) {
	typ, ok := arg, true
	switch k {
	case api.SBox:
		typ, ok = kind.Box(arg)
	case api.SRef:
		typ, ok = kind.Ref(arg)
	case api.SMut:
		typ, ok = kind.Mut(arg)
	}
	if !ok {
		return "", api.DType
	}
	return typ, 0
}

// misplaced: does a statement move, or lend, what its kind doesn't let it, or set a reference that isn't bare?
func (c *checker) misplaced(s api.Stmt, u used) bool {
	switch s.Kind {
	case api.SUse, api.SBox, api.SNew, api.STag:
		return c.unmovable(u.args)
	case api.SMut:
		if u.args[0].Shared {
			return true
		}
		fallthrough
	case api.SRef:
		return !bare(s.To)
	}
	return false
}

// unstorable: is a place with steps none to store into? What stands behind a ref stays as it is, and what is to be dropped would be lost: only where a place is bare it is dropped behind the store.
func (c *checker) unstorable(to Typed) bool {
	switch kind.Kind(to.Type) {
	case kind.KRef, kind.KMut:
		return true
	}
	return to.Shared || c.Drops(to.Type)
}
