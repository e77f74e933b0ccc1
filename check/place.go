package check

import (
	"drogue/api"
	"drogue/kind"
	"drogue/tree"
)

// place: what a place of the function is, and 0; noughts and its code.
func (c *checker) place(p api.Place) (Typed, int) {
	typ, ok := c.local(p.Local)
	if !ok {
		return Typed{}, api.DName
	}
	is := Typed{Type: typ}
	for _, step := range p.Steps {
		code := 0
		if step == "*" {
			is, code = behind(is)
		} else {
			is, code = c.field(is, step)
		}
		if code != 0 {
			return Typed{}, code
		}
	}
	return is, 0
}

// local: the type of a parameter or a local. Is there one?
func (c *checker) local(name string) (string, bool) {
	for _, list := range [][]api.Var{c.f.Params, c.f.Locals} {
		if i := tree.Find(list, name); i >= 0 {
			return list[i].Type, true
		}
	}
	return "", false
}

// behind: what a place is with a * more.
func behind(is Typed) (Typed, int) {
	elem, ok := kind.Elem(is.Type)
	if !ok {
		return Typed{}, api.DType
	}
	switch kind.Kind(is.Type) {
	case kind.KRef:
		is.Shared = true
	case kind.KMut:
		is.Lent = true
	}
	is.Type = elem
	return is, 0
}

// field: what a place is with a field more.
func (c *checker) field(is Typed, name string) (Typed, int) {
	s, ok := c.Struct(is.Type)
	if !ok {
		return Typed{}, api.DType
	}
	i := tree.Find(s.Fields, name)
	if i < 0 {
		return Typed{}, api.DName
	}
	is.Type = s.Fields[i].Type
	is.Hooked = is.Hooked || s.Hook
	return is, 0
}

// movable: is what a place is movable?
func (c *checker) movable(is Typed) bool {
	return c.Copied(is.Type) || !(is.Shared || is.Lent || is.Hooked)
}

// bare: has a place no steps?
func bare(p api.Place) bool { return len(p.Steps) == 0 }
