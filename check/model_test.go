package check_test

import (
	"fmt"
	"math/rand"
	"slices"
	"strings"
	"testing"

	"drogue/api"
	"drogue/check"
	"drogue/table"
	"drogue/tree"
)

// spot is what a place is, in the model: its type, and a letter for each thing that it went through (r, m, h).
type spot struct{ typ, through string }

// model is a function of a program, with all its places up to some steps, by their texts.
type model struct {
	p     api.Prog
	f     api.Func
	spots map[string]spot
}

const modelSteps = 4

// fields: those of a struct. Has it a hook? Is there one?
func (m model) fields(typ string) ([]api.Var, bool, bool) {
	for _, s := range m.p.Structs {
		if s.Name == typ {
			return s.Fields, s.Hook, true
		}
	}
	return nil, false, false
}

// newModel: all places are found, whatever is asked, from the locals on, step by step.
func newModel(p api.Prog, f api.Func) model {
	m := model{p, f, map[string]spot{}}
	edge := map[string]spot{}
	for _, v := range slices.Backward(slices.Concat(f.Params, f.Locals)) {
		edge[v.Name] = spot{v.Type, ""}
	}
	for range modelSteps + 1 {
		next := map[string]spot{}
		for text, s := range edge {
			m.spots[text] = s
			if word, elem, ok := strings.Cut(s.typ, " "); ok {
				next[text+".*"] = spot{elem, s.through + map[string]string{"box": "", "ref": "r", "mut": "m"}[word]}
			}
			list, hook, _ := m.fields(s.typ)
			for _, v := range list {
				next[text+"."+v.Name] = spot{v.Type, s.through + map[bool]string{true: "h"}[hook]}
			}
		}
		edge = next
	}
	return m
}

// code: that of a place: of its shortest beginning that isn't among all places.
func (m model) code(text string) int {
	steps := strings.Split(text, ".")
	for n := range steps {
		if _, ok := m.spots[strings.Join(steps[:n+1], ".")]; ok {
			continue
		}
		if n == 0 {
			return api.DName
		}
		_, _, ok := m.fields(m.spots[strings.Join(steps[:n], ".")].typ)
		if ok && steps[n] != "*" {
			return api.DName
		}
		return api.DType
	}
	return 0
}

func copied(typ string) bool { return typ == "int" || strings.HasPrefix(typ, "ref ") }

func (m model) movable(s spot) bool { return s.through == "" || copied(s.typ) }

// drops: does a type need drop? By what is within it, as far as that goes.
func (m model) drops(typ string) bool {
	if strings.HasPrefix(typ, "box ") {
		return true
	}
	list, hook, _ := m.fields(typ)
	for _, e := range m.p.Enums {
		if e.Name == typ {
			list = e.Variants
		}
	}
	return hook || slices.ContainsFunc(list, func(v api.Var) bool { return m.drops(v.Type) })
}

// fault is a code, and whether it is so; the first one that is counts.
type fault struct {
	code int
	is   bool
}

func firstFault(faults []fault) int {
	for _, x := range faults {
		if x.is {
			return x.code
		}
	}
	return 0
}

// placeFaults: those of the places, and what they are.
func (m model) placeFaults(args []api.Place, to api.Place) (faults []fault, list []spot, is spot) {
	for _, p := range args {
		code := m.code(tree.Text(p))
		faults = append(faults, fault{code, code != 0})
		list = append(list, m.spots[tree.Text(p)])
	}
	if to.Local != "" {
		code := m.code(tree.Text(to))
		faults = append(faults, fault{code, code != 0})
	}
	return faults, list, m.spots[tree.Text(to)]
}

// signature: types, a comma behind each.
func signature(list []spot) string {
	text := ""
	for _, s := range list {
		text += s.typ + ","
	}
	return text
}

func (m model) stmt(s api.Stmt) int {
	faults, args, to := m.placeFaults(s.Args, s.To)
	name, want := true, ""
	anyOf := func(is func(spot) bool) bool { return slices.ContainsFunc(args, is) }
	moves := anyOf(func(s spot) bool { return !m.movable(s) })
	switch s.Kind {
	case api.SNum:
		want = "->int"
	case api.SAdd, api.SSub, api.SLess:
		want = "int,int,->int"
	case api.SOut:
		want = "int,->"
	case api.SUse:
		want = args[0].typ + ",->" + args[0].typ
	case api.SBox:
		want = args[0].typ + ",->box " + args[0].typ
	case api.SRef:
		want = args[0].typ + ",->ref " + args[0].typ
	case api.SMut:
		want = args[0].typ + ",->mut " + args[0].typ
	case api.SNew:
		list, _, ok := m.fields(s.Name)
		for _, v := range list {
			want += v.Type + ","
		}
		name, want = ok, want+"->"+s.Name
	case api.STag:
		name = false
		for _, e := range m.p.Enums {
			for _, v := range e.Variants {
				if e.Name == s.Name && v.Name == s.Variant {
					name, want = true, strings.TrimPrefix(v.Type+",", ",")+"->"+s.Name
				}
			}
		}
	}
	moving := s.Kind == api.SUse || s.Kind == api.SBox || s.Kind == api.SNew || s.Kind == api.STag
	lending := s.Kind == api.SRef || s.Kind == api.SMut
	deep := len(s.To.Steps) > 0
	return firstFault(append(faults,
		fault{api.DName, !name},
		fault{api.DType, signature(args)+"->"+to.typ != want},
		fault{api.DPlace, s.Kind == api.SMut && strings.Contains(args[0].through, "r")},
		fault{api.DPlace, moving && moves || lending && deep},
		fault{api.DPlace, deep && (strings.Contains(to.through, "r") || m.drops(to.typ))},
	))
}

func (m model) term(t api.Term) int {
	faults, args, to := m.placeFaults(t.Args, t.To)
	tell := func(code int, is bool) { faults = append(faults, fault{code, is}) }
	unmovable := slices.ContainsFunc(args, func(s spot) bool { return !m.movable(s) })
	switch t.Kind {
	case api.TIf:
		tell(api.DType, args[0].typ != "int")
	case api.TMatch:
		tell(api.DPlace, len(t.Args[0].Steps) > 0)
		var e api.Enum
		for _, x := range m.p.Enums {
			if x.Name == args[0].typ {
				e = x
			}
		}
		variants, arms := "", ""
		for _, v := range e.Variants {
			variants += v.Name + ","
		}
		for _, a := range t.Arms {
			arms += a.Variant + ","
		}
		tell(api.DType, variants != arms)
		for i := range min(len(t.Arms), len(e.Variants)) {
			local, payload := t.Arms[i].Local, e.Variants[i].Type
			tell(api.DType, (local == "") != (payload == ""))
			tell(api.DName, local != "" && m.code(local) != 0)
			tell(api.DType, m.spots[local].typ != payload)
		}
	case api.TCall, api.TCatch:
		called := ""
		var f api.Func
		for _, g := range slices.Backward(m.p.Funcs) {
			if g.Name == t.Name {
				called, f = g.Name, g
			}
		}
		want := ""
		for _, v := range f.Params {
			want += v.Type + ","
		}
		tell(api.DName, called == "")
		tell(api.DType, signature(args) != want)
		tell(api.DPlace, unmovable || len(t.To.Steps) > 0)
		tell(api.DType, to.typ != f.Result || t.Kind == api.TCatch && f.Result+to.typ != "intint")
	case api.TReturn:
		tell(api.DType, args[0].typ != m.f.Result)
		tell(api.DPlace, unmovable)
	}
	blocks := slices.Clone(t.Blocks)
	for _, a := range t.Arms {
		blocks = append(blocks, a.Block)
	}
	names := " "
	for _, b := range m.f.Blocks {
		names += b.Name + " "
	}
	for _, name := range blocks {
		tell(api.DName, !strings.Contains(names, " "+name+" "))
	}
	return firstFault(faults)
}

// modelNames: what is told of a function but for its statements and ends.
func modelNames(f api.Func, known string) []api.Diag {
	var diags []api.Diag
	tell := func(at, code int, is bool) {
		if is {
			diags = append(diags, api.Diag{At: at, Code: code})
		}
	}
	isKnown := func(typ string) bool {
		words := strings.Fields(typ)
		return strings.Contains(known, " "+words[len(words)-1]+" ")
	}
	ahead := map[string]int{}
	for _, v := range slices.Concat(f.Params, f.Locals) {
		tell(f.At, api.DTwice, ahead[v.Name] > 0)
		tell(f.At, api.DName, !isKnown(v.Type))
		ahead[v.Name]++
	}
	tell(f.At, api.DName, !isKnown(f.Result))
	clear(ahead)
	for _, b := range f.Blocks {
		tell(b.At, api.DTwice, ahead[b.Name] > 0)
		ahead[b.Name]++
	}
	return diags
}

// modelCheck: all that is told, but for what layer 8 tells. Each code is counted, by what it is told of.
func modelCheck(p api.Prog, count map[string]int) []api.Diag {
	var diags []api.Diag
	tell := func(what string, at, code int) {
		count[strings.TrimSpace(what+" "+word(code))]++
		if code != 0 {
			diags = append(diags, api.Diag{At: at, Code: code})
		}
	}
	isMain, ahead := false, map[string]int{}
	for _, f := range p.Funcs {
		if ahead[f.Name] > 0 {
			tell("function", f.At, api.DTwice)
		}
		if f.Name == "main" && ahead["main"] == 0 {
			isMain = len(f.Params) == 0 && f.Result == "int"
		}
		ahead[f.Name]++
	}
	if !isMain {
		tell("function", 0, api.DMain)
	}
	known := " int "
	for _, s := range p.Structs {
		known += s.Name + " "
	}
	for _, e := range p.Enums {
		known += e.Name + " "
	}
	for _, f := range p.Funcs {
		names := modelNames(f, known)
		for _, d := range names {
			tell("names", d.At, d.Code)
		}
		if len(names) > 0 {
			continue
		}
		m := newModel(p, f)
		for _, b := range f.Blocks {
			for _, s := range b.Stmts {
				tell(fmt.Sprint("stmt ", s.Kind), s.At, m.stmt(s))
			}
			tell(fmt.Sprint("term ", b.Term.Kind), b.Term.At, m.term(b.Term))
		}
	}
	return diags
}

// wantSpots: what is answered of each place of a function is what the model has.
func wantSpots(t *testing.T, p api.Prog, r checkMaker) {
	t.Helper()
	tab, _ := table.New(p)
	f := p.Funcs[r.Intn(len(p.Funcs))]
	m := newModel(p, f)
	for q := range tree.Uses(f) {
		s := m.spots[tree.Text(q)]
		want := check.Typed{Type: s.typ, Shared: strings.Contains(s.through, "r"), Lent: strings.Contains(s.through, "m"), Hooked: strings.Contains(s.through, "h")}
		if strings.HasPrefix(s.typ, "ref ") && !tab.Known(s.typ) {
			continue // what isn't known isn't copied, and the model's types are
		}
		wantPlace(t, tab, f, q, want, m.code(tree.Text(q)))
	}
}

// P9.1 and P9.2, beside a plain model.
func TestModel(t *testing.T) {
	r := checkMaker{rand.New(rand.NewSource(99)), false}
	count := map[string]int{}
	for range 10000 {
		r.sober = r.Intn(3) == 0
		p := r.program(t)
		if !tree.Right(p) {
			t.Fatalf("not shaped: %+v", p)
		}
		got, want := check.Check(p), modelCheck(p, count)
		if !slices.Equal(got, want) {
			t.Fatalf("%v, want %v, of %+v", got, want, p)
		}
		if len(want) == 0 {
			count["none"]++
		}
		wantSpots(t, p, r)
		if t.Failed() {
			t.Fatalf("of %+v", p)
		}
	}
	wantCounts(t, count)
}

// wantCounts: each code of each kind was told often enough.
func wantCounts(t *testing.T, count map[string]int) {
	t.Helper()
	want := []string{"none", "function twice", "function main", "names twice", "names name"}
	for kind := api.SNum; kind <= api.SOut; kind++ {
		for _, code := range []string{"", " name", " type", " place"} {
			want = append(want, fmt.Sprint("stmt ", kind, code))
		}
	}
	for kind := api.TGoto; kind <= api.TReturn; kind++ {
		for _, code := range []string{"", " name", " type", " place"} {
			want = append(want, fmt.Sprint("term ", kind, code))
		}
	}
	// Where they have places and types at all, these fit only if they are well placed.
	never := []string{"stmt 9 place", "stmt 11 place", "term 1 type", "term 1 place", "term 2 place", "term 4 type", "term 4 place"}
	for _, what := range want {
		if least := 50; count[what] < least != slices.Contains(never, what) {
			t.Error("too few, or too many:", what, count[what])
		}
	}
}
