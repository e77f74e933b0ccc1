package check_test

import (
	"fmt"
	"maps"
	"math/rand"
	"slices"
	"strings"
	"testing"

	"drogue/api"
	"drogue/tree"
)

// checkMaker makes programs at random, of which more parts are right than aren't; if it is sober, all are.
type checkMaker struct {
	*rand.Rand
	sober bool
}

func (r checkMaker) one(list ...string) string { return list[r.Intn(len(list))] }

// odd: is it time for something that isn't right?
func (r checkMaker) odd() bool { return !r.sober && r.Intn(25) == 0 }

func (r checkMaker) typ(odd bool) string {
	if odd && r.odd() {
		return r.one("zz", "box zz", "ref zz")
	}
	plain := r.one("int", "int", "box int", "box int", "pair", "hk", "flat", "in", "cell", "opt", "bare", "deep", "box flat", "box hk", "box bare", "box box int")
	return r.one("", "", "", "", "ref ", "mut ") + plain
}

func (r checkMaker) plainType(odd bool) string {
	_, elem, ok := strings.Cut(r.typ(odd), "ref ")
	for !ok {
		_, elem, ok = strings.Cut("ref "+r.typ(odd), "ref ")
		ok = ok && !strings.Contains(elem, "ref ") && !strings.Contains(elem, "mut ")
	}
	return elem
}

// header: a function but for its blocks.
func (r checkMaker) header(name string, odd bool) api.Func {
	f := api.Func{Name: name, Result: r.plainType(odd)}
	for i := range r.Intn(4) {
		f.Params = append(f.Params, api.Var{Name: fmt.Sprint("p", i), Type: r.typ(odd)})
	}
	for i := range 1 + r.Intn(14) {
		f.Locals = append(f.Locals, api.Var{Name: fmt.Sprint("x", i), Type: r.typ(odd)})
	}
	if name == "main" && !r.odd() {
		f.Params, f.Result = nil, "int"
	}
	if odd && r.odd() && len(f.Locals) > 1 {
		f.Locals[r.Intn(len(f.Locals))].Name = r.one("p0", "x0")
	}
	return f
}

// place: one of a type, if there is one, or any one, or one that there isn't.
func (r checkMaker) place(m model, all []string, typ string) api.Place {
	var list []string
	for _, text := range all {
		if m.spots[text].typ == typ {
			list = append(list, text)
		}
	}
	text := all[r.Intn(len(all))]
	if len(list) > 0 && !r.odd() {
		text = list[r.Intn(len(list))]
	}
	if r.odd() && strings.Count(text, ".") < modelSteps {
		text += r.one(".*", ".zz", ".a", ".b", ".f")
	}
	if r.odd() {
		text = "zz" + strings.TrimLeft(text, "x0123456789")
	}
	return at(text)
}

// to: a place of a type to store into; a bare one more often, if there is one.
func (r checkMaker) to(m model, all []string, typ string) api.Place {
	p := r.place(m, all, typ)
	for range 6 {
		if len(p.Steps) > 0 && r.Intn(3) > 0 {
			p = r.place(m, all, typ)
		}
	}
	return p
}

func (r checkMaker) stmt(m model, all []string) api.Stmt {
	s := api.Stmt{Kind: 1 + r.Intn(api.SOut)}
	some := r.place(m, all, r.typ(false))
	typ := m.spots[tree.Text(some)].typ
	to := func(typ string) { s.To = r.to(m, all, typ) }
	arg := func(typ string) { s.Args = append(s.Args, r.place(m, all, typ)) }
	switch s.Kind {
	case api.SNum:
		to("int")
	case api.SAdd, api.SSub, api.SLess:
		arg("int")
		arg("int")
		to("int")
	case api.SOut:
		arg("int")
	case api.SUse, api.SBox, api.SRef, api.SMut:
		s.Args = []api.Place{some}
		to(map[int]string{api.SBox: "box ", api.SRef: "ref ", api.SMut: "mut "}[s.Kind] + typ)
	case api.SNew:
		s.Name = r.one("pair", "hk", "flat", "flat", "none", "cell", "in")
		list, _, _ := m.fields(s.Name)
		for _, v := range list {
			arg(v.Type)
		}
		if r.odd() && len(s.Args) > 0 {
			s.Args = s.Args[1:]
		}
		to(s.Name)
		if r.odd() {
			s.Name = r.one("zz", "opt", "bare")
		}
	case api.STag:
		e := m.p.Enums[r.Intn(len(m.p.Enums))]
		v := e.Variants[r.Intn(len(e.Variants))]
		s.Name, s.Variant = e.Name, v.Name
		if (v.Type != "") != r.odd() {
			arg(v.Type)
		}
		to(s.Name)
		if r.odd() {
			s.Variant = r.one("zz", "u", "none")
		}
	}
	return s
}

func (r checkMaker) block() string {
	if r.odd() {
		return "zz"
	}
	return r.one("b0", "b1")
}

func (r checkMaker) arms(m model, all []string, typ string) []api.Arm {
	i := slices.IndexFunc(m.p.Enums, func(e api.Enum) bool { return e.Name == typ })
	if i < 0 {
		i = r.Intn(len(m.p.Enums))
	}
	var arms []api.Arm
	for _, v := range m.p.Enums[i].Variants {
		a := api.Arm{Variant: v.Name, Block: r.block()}
		if (v.Type != "") != r.odd() {
			a.Local = r.place(m, bareOf(all), v.Type).Local
		}
		arms = append(arms, a)
	}
	if r.odd() {
		slices.Reverse(arms)
	}
	if r.odd() && len(arms) > 1 {
		arms = arms[1:]
	}
	return arms
}

// bareOf: the texts without steps.
func bareOf(all []string) []string {
	return slices.DeleteFunc(slices.Clone(all), func(text string) bool { return strings.Contains(text, ".") })
}

func (r checkMaker) term(m model, all []string) api.Term {
	t := api.Term{Kind: 1 + r.Intn(api.TReturn)}
	switch t.Kind {
	case api.TGoto, api.TCheck:
		t.Blocks = []string{r.block()}
	case api.TIf:
		t.Args, t.Blocks = []api.Place{r.place(m, all, "int")}, []string{r.block(), r.block()}
	case api.TMatch:
		typ := r.one("opt", "bare", "deep")
		t.Args = []api.Place{r.place(m, bareOf(all), typ)}
		if r.odd() {
			t.Args = []api.Place{r.place(m, all, typ)}
		}
		t.Arms = r.arms(m, all, m.spots[tree.Text(t.Args[0])].typ)
	case api.TCall, api.TCatch:
		f := m.p.Funcs[r.Intn(len(m.p.Funcs))]
		t.Name, t.Blocks = f.Name, []string{r.block()}
		for _, v := range f.Params {
			t.Args = append(t.Args, r.place(m, all, v.Type))
		}
		t.To = r.to(m, all, f.Result)
		if r.odd() {
			t.Name = r.one("zz", "main", "g")
		}
	case api.TReturn:
		t.Args = []api.Place{r.place(m, all, m.f.Result)}
	}
	return t
}

// until: what is made, once more until it is right, unless any will do.
func until[T any](anyWill bool, made func() T, code func(T) int) T {
	for {
		if x := made(); anyWill || code(x) == 0 {
			return x
		}
	}
}

// program: the tests' types, and some functions. Its At are all unlike.
func (r checkMaker) program(t *testing.T) api.Prog {
	p := parsed(t, decls)
	odd := r.Intn(3) == 0
	for _, name := range []string{"f", "main", "g", "h"}[:1+r.Intn(4)] {
		if odd && r.odd() {
			name = r.one("f", "main")
		}
		p.Funcs = append(p.Funcs, r.header(name, odd))
	}
	next := 0
	number := func() int { next++; return next }
	for i := range p.Funcs {
		f := &p.Funcs[i]
		f.At = number()
		m := newModel(p, *f)
		m.f.Blocks = []api.Block{{Name: "b0"}, {Name: "b1"}}
		all := slices.Sorted(maps.Keys(m.spots))
		for _, name := range []string{"b0", "b1"} {
			if odd && r.odd() {
				name = "b0"
			}
			b := api.Block{At: number(), Name: name}
			for range r.Intn(6) {
				s := until(!r.sober, func() api.Stmt { return r.stmt(m, all) }, m.stmt)
				s.At = number()
				b.Stmts = append(b.Stmts, s)
			}
			b.Term = until(!r.sober, func() api.Term { return r.term(m, all) }, m.term)
			b.Term.At = number()
			f.Blocks = append(f.Blocks, b)
		}
	}
	return p
}
