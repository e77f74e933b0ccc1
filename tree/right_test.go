package tree_test

import (
	"fmt"
	"math"
	"slices"
	"strings"
	"testing"

	"drogue/api"
	"drogue/tree"
)

// full: a shaped program with each kind of statement and of end, and a place, a name and a type at each spot where one may stand.
func full() api.Prog {
	to, one := place("x", "*", "a"), []api.Place{place("y", "b")}
	two := []api.Place{place("y"), place("z", "*")}
	// Each statement and end gets lists of its own: a test that changes one is to change that one alone.
	stmts := []api.Stmt{
		{Kind: api.SNum, To: to, N: -5}, {Kind: api.SAdd, To: to, Args: two}, {Kind: api.SSub, To: to, Args: two}, {Kind: api.SLess, To: to, Args: two},
		{Kind: api.SUse, To: to, Args: one}, {Kind: api.SBox, To: to, Args: one}, {Kind: api.SNew, To: to, Name: "pair", Args: two},
		{Kind: api.STag, To: to, Name: "opt", Variant: "some", Args: one}, {Kind: api.SRef, To: to, Args: one}, {Kind: api.SMut, To: to, Args: one}, {Kind: api.SOut, Args: one},
	}
	ends := []api.Term{
		{Kind: api.TGoto, Blocks: []string{"b1"}}, {Kind: api.TIf, Args: one, Blocks: []string{"b1", "b2"}},
		{Kind: api.TMatch, Args: one, Arms: []api.Arm{{Variant: "none", Block: "b1"}, {Variant: "some", Local: "y", Block: "b2"}}}, {Kind: api.TCheck, Blocks: []string{"b1"}},
		{Kind: api.TCall, To: to, Name: "main", Args: two, Blocks: []string{"b1"}}, {Kind: api.TCatch, To: to, Name: "main", Args: one, Blocks: []string{"b2"}}, {Kind: api.TReturn, Args: one},
	}
	f := api.Func{Name: "main", Params: []api.Var{{Name: "p", Type: "ref pair"}, {Name: "q", Type: "box int"}}, Locals: []api.Var{{Name: "x", Type: "mut opt"}, {Name: "y", Type: "int"}}, Result: "box opt"}
	for i, end := range ends {
		b := api.Block{Name: fmt.Sprint("b", i), Term: end}
		if i == 0 {
			b.Stmts = stmts
		}
		f.Blocks = append(f.Blocks, b)
	}
	p := api.Prog{
		Structs: []api.Struct{{Name: "pair", Fields: []api.Var{{Name: "a", Type: "int"}, {Name: "b", Type: "box pair"}}}, {Name: "cell", Safe: true, Hook: true}},
		Enums:   []api.Enum{{Name: "opt", Variants: []api.Var{{Name: "none"}, {Name: "some", Type: "box int"}}}},
		Funcs:   []api.Func{f, {Name: "id", Result: "int", Blocks: []api.Block{{Name: "b", Term: api.Term{Kind: api.TReturn, Args: one}}}}},
	}
	return apart(p)
}

// apart: a program whose lists share nothing.
func apart(p api.Prog) api.Prog {
	separate := func(x api.Place) api.Place { return place(x.Local, slices.Clone(x.Steps)...) }
	all := func(list []api.Place) []api.Place {
		list = slices.Clone(list)
		for i := range list {
			list[i] = separate(list[i])
		}
		return list
	}
	for i := range p.Funcs {
		for j := range p.Funcs[i].Blocks {
			b := &p.Funcs[i].Blocks[j]
			for k := range b.Stmts {
				b.Stmts[k].To, b.Stmts[k].Args = separate(b.Stmts[k].To), all(b.Stmts[k].Args)
			}
			b.Term.To, b.Term.Args = separate(b.Term.To), all(b.Term.Args)
		}
	}
	return p
}

// wantRight: is the full program, with something changed, shaped?
func wantRight(t *testing.T, what string, want bool, change func(p *api.Prog)) {
	t.Helper()
	p := full()
	change(&p)
	if got := tree.Right(p); got != want {
		t.Errorf("%s: %v", what, got)
	}
}

// repeat: a row of n things.
func repeat[T any](n int, x T) []T { return slices.Repeat([]T{x}, n) }

// P5.1, Right: how many there may be of each thing, at the bounds and one beyond.
func TestRightCounts(t *testing.T) {
	v, x := api.Var{Name: "v", Type: "int"}, place("x")
	end := api.Term{Kind: api.TGoto, Blocks: []string{"b"}}
	args := func(of func(p *api.Prog) *[]api.Place) func(p *api.Prog, n int) {
		return func(p *api.Prog, n int) { *of(p) = repeat(n, x) }
	}
	for what, c := range map[string]struct {
		least, most int
		set         func(p *api.Prog, n int)
	}{
		"structs":    {0, 16, func(p *api.Prog, n int) { p.Structs = repeat(n, api.Struct{Name: "s"}) }},
		"enums":      {0, 16, func(p *api.Prog, n int) { p.Enums = repeat(n, api.Enum{Name: "e", Variants: []api.Var{v}}) }},
		"functions":  {0, 16, func(p *api.Prog, n int) { p.Funcs = repeat(n, p.Funcs[0]) }},
		"fields":     {0, 16, func(p *api.Prog, n int) { p.Structs[0].Fields = repeat(n, v) }},
		"variants":   {1, 16, func(p *api.Prog, n int) { p.Enums[0].Variants = repeat(n, v) }},
		"parameters": {0, 16, func(p *api.Prog, n int) { p.Funcs[0].Params = repeat(n, v) }},
		"locals":     {0, 22, func(p *api.Prog, n int) { p.Funcs[0].Locals = repeat(n, v) }},
		"blocks":     {1, 64, func(p *api.Prog, n int) { p.Funcs[0].Blocks = repeat(n, api.Block{Name: "b", Term: end}) }},
		"statements": {0, 64, func(p *api.Prog, n int) {
			p.Funcs[0].Blocks[1].Stmts = repeat(n, api.Stmt{Kind: api.SNum, To: x})
		}},
		"arms": {1, 16, func(p *api.Prog, n int) {
			p.Funcs[0].Blocks[2].Term.Arms = repeat(n, api.Arm{Variant: "v", Block: "b"})
		}},
		"new's Args":   {0, 16, args(func(p *api.Prog) *[]api.Place { return &p.Funcs[0].Blocks[0].Stmts[api.SNew-1].Args })},
		"call's Args":  {0, 16, args(func(p *api.Prog) *[]api.Place { return &p.Funcs[0].Blocks[api.TCall-1].Term.Args })},
		"catch's Args": {0, 16, args(func(p *api.Prog) *[]api.Place { return &p.Funcs[0].Blocks[api.TCatch-1].Term.Args })},
		"tag's Args":   {0, 1, args(func(p *api.Prog) *[]api.Place { return &p.Funcs[0].Blocks[0].Stmts[api.STag-1].Args })},
	} {
		for _, n := range []int{0, 1, 2, 15, 16, 17, 21, 22, 23, 24, 25, 63, 64, 65, 255, 256, 257, 1000} {
			wantRight(t, fmt.Sprint(n, " ", what), n >= c.least && n <= c.most, func(p *api.Prog) { c.set(p, n) })
		}
	}
}

// P5.1, Right: 24 parameters and locals together, not 25, and not 17 parameters.
func TestRightLocals(t *testing.T) {
	v := api.Var{Name: "v", Type: "int"}
	for params := range 30 {
		for locals := range 30 {
			wantRight(t, fmt.Sprint(params, " parameters, ", locals, " locals"), params <= 16 && params+locals <= 24, func(p *api.Prog) {
				p.Funcs[0].Params, p.Funcs[0].Locals = repeat(params, v), repeat(locals, v)
			})
		}
	}
}

// P5.1, Right: the bounds are each function's, each block's, each struct's own.
func TestRightEach(t *testing.T) {
	v, end := api.Var{Name: "v", Type: "int"}, api.Term{Kind: api.TGoto, Blocks: []string{"b"}}
	wantRight(t, "the greatest program", true, func(p *api.Prog) {
		b := api.Block{Name: "b", Stmts: repeat(64, api.Stmt{Kind: api.SNum, To: place("x")}), Term: end}
		p.Structs = repeat(16, api.Struct{Name: "s", Fields: repeat(16, v)})
		p.Enums = repeat(16, api.Enum{Name: "e", Variants: repeat(16, v)})
		p.Funcs = repeat(16, api.Func{Name: "f", Params: repeat(16, v), Locals: repeat(8, v), Result: "int", Blocks: repeat(64, b)})
	})
	wantRight(t, "the full one", true, func(*api.Prog) {})
	wantRight(t, "the empty one", true, func(p *api.Prog) { *p = api.Prog{} })
	wantRight(t, "the empty one of empty lists", true, func(p *api.Prog) {
		*p = api.Prog{Structs: []api.Struct{}, Enums: []api.Enum{}, Funcs: []api.Func{}}
	})
	// A wrong thing is told wherever it stands, not in the first of a list alone.
	wantRight(t, "a last struct", false, func(p *api.Prog) { p.Structs[1].Fields = []api.Var{v, {Name: "v"}} })
	wantRight(t, "a last enum", false, func(p *api.Prog) { p.Enums = append(p.Enums, api.Enum{Name: "e"}) })
	wantRight(t, "a last function", false, func(p *api.Prog) { p.Funcs[1].Blocks = nil })
	wantRight(t, "a last block", false, func(p *api.Prog) { p.Funcs[1].Blocks = append(p.Funcs[1].Blocks, api.Block{Name: "b"}) })
}

// stmtHas and termHas: what each kind has, as the chapter tells it.
var stmtHas = map[int]struct {
	parts       string
	least, most int
}{
	1: {"to n", 0, 0}, 2: {"to", 2, 2}, 3: {"to", 2, 2}, 4: {"to", 2, 2}, 5: {"to", 1, 1}, 6: {"to", 1, 1},
	7: {"to name", 0, 16}, 8: {"to name variant", 0, 1}, 9: {"to", 1, 1}, 10: {"to", 1, 1}, 11: {"", 1, 1},
}

var termHas = map[int]struct {
	parts              string
	argsLeast, argMost int
	blocks             int
	armsLeast, armMost int
}{
	1: {"", 0, 0, 1, 0, 0}, 2: {"", 1, 1, 2, 0, 0}, 3: {"", 1, 1, 0, 1, 16}, 4: {"", 0, 0, 1, 0, 0},
	5: {"to name", 0, 16, 1, 0, 0}, 6: {"to name", 0, 16, 1, 0, 0}, 7: {"", 1, 1, 0, 0, 0},
}

var kinds = []int{0, 1, 2, 3, 4, 5, 6, 7, 8, 9, 10, 11, 12, 13, -1, -2, 255, 256, 257, 1 << 32, 1<<32 + 1, math.MaxInt, math.MinInt}

var counts = []int{0, 1, 2, 3, 15, 16, 17}

// subsets: all choices of some things.
func subsets(all ...string) []string {
	var list []string
	for bits := range 1 << len(all) {
		var some []string
		for i, x := range all {
			if bits>>i&1 == 1 {
				some = append(some, x)
			}
		}
		list = append(list, strings.Join(some, " "))
	}
	return list
}

func has(parts, part string) bool { return slices.Contains(strings.Fields(parts), part) }

// P5.1, Right: each kind of statement, and kinds that are none, with each choice of parts, and so many Args.
func TestRightStmts(t *testing.T) {
	right := 0
	for _, kind := range kinds {
		for _, parts := range subsets("to", "n", "name", "variant") {
			for _, n := range counts {
				s := api.Stmt{Kind: kind, Args: repeat(n, place("y", "*"))}
				if has(parts, "to") {
					s.To = place("x")
				}
				if has(parts, "n") {
					s.N = 1
				}
				if has(parts, "name") {
					s.Name = "m"
				}
				if has(parts, "variant") {
					s.Variant = "v"
				}
				w, ok := stmtHas[kind]
				want := ok && n >= w.least && n <= w.most && (parts == w.parts || kind == api.SNum && parts == "to") // a number may be 0
				wantRight(t, fmt.Sprintf("statement %d with %s and %d Args", kind, parts, n), want, func(p *api.Prog) { p.Funcs[0].Blocks[0].Stmts[3] = s })
				if want {
					right++
				}
			}
		}
	}
	if right != 2+3+4+6+2+1 {
		t.Error(right)
	}
}

// P5.1, Right: each kind of end, and kinds that are none, with each choice of parts, and so many Args, Blocks and Arms.
func TestRightTerms(t *testing.T) {
	right := 0
	for _, kind := range kinds {
		for _, parts := range subsets("to", "name") {
			for i := range len(counts) * len(counts) * len(counts) {
				args, blocks, arms := counts[i%len(counts)], counts[i/len(counts)%len(counts)], counts[i/len(counts)/len(counts)]
				e := api.Term{Kind: kind, Args: repeat(args, place("y")), Blocks: repeat(blocks, "b"), Arms: repeat(arms, api.Arm{Variant: "v", Local: "x", Block: "b"})}
				if has(parts, "to") {
					e.To = place("x", "a")
				}
				if has(parts, "name") {
					e.Name = "m"
				}
				w, ok := termHas[kind]
				want := ok && parts == w.parts && args >= w.argsLeast && args <= w.argMost && blocks == w.blocks && arms >= w.armsLeast && arms <= w.armMost
				wantRight(t, fmt.Sprintf("end %d with %s, %d Args, %d Blocks, %d Arms", kind, parts, args, blocks, arms), want, func(p *api.Prog) { p.Funcs[0].Blocks[1].Term = e })
				if want {
					right++
				}
			}
		}
	}
	if right != 1+1+5+1+6+6+1 {
		t.Error(right)
	}
}

// P5.1, Right: numbers at their bounds and beyond.
func TestRightNumbers(t *testing.T) {
	for n, want := range map[int64]bool{
		0: true, 1: true, -1: true, 1 << 40: true, -1 << 40: true, 1<<40 - 1: true, 1 - 1<<40: true,
		1<<40 + 1: false, -1<<40 - 1: false, 1 << 41: false, -1 << 41: false, math.MaxInt64: false, math.MinInt64: false, math.MinInt64 + 1: false,
	} {
		wantRight(t, fmt.Sprint("the number ", n), want, func(p *api.Prog) { p.Funcs[0].Blocks[0].Stmts[0].N = n })
		for kind := 2; kind <= 11; kind++ {
			wantRight(t, fmt.Sprint("the number ", n, " in a statement ", kind), n == 0, func(p *api.Prog) { p.Funcs[0].Blocks[0].Stmts[kind-1].N = n })
		}
	}
}

// spots: where something of one kind stands in the full program.
type spots[T any] map[string]func(p *api.Prog) *T

// stmtAt and termAt: the statement, and the end, of a kind in the full program.
func stmtAt(p *api.Prog, kind int) *api.Stmt { return &p.Funcs[0].Blocks[0].Stmts[kind-1] }

func termAt(p *api.Prog, kind int) *api.Term { return &p.Funcs[0].Blocks[kind-1].Term }

var (
	goodNames = []string{"a", "z", "a0", "a_", "boxes", "intx", "main", "abcdefghijklmnop", "a_______________"}
	badNames  = append(strings.Fields(words), " ", "A", "aB", "_", "_a", "5", "-5", "*", ".", "a.b", "a b", " a", "a ", "a\n", "a*", "a:", "#", "é", "\x00", "a\xff", "abcdefghijklmnopq", strings.Repeat("a", 100000))
)

// nameSpots: where a name stands in the full program.
func nameSpots() spots[string] {
	return spots[string]{
		"struct": func(p *api.Prog) *string { return &p.Structs[1].Name }, "enum": func(p *api.Prog) *string { return &p.Enums[0].Name }, "function": func(p *api.Prog) *string { return &p.Funcs[1].Name },
		"field": func(p *api.Prog) *string { return &p.Structs[0].Fields[1].Name }, "variant": func(p *api.Prog) *string { return &p.Enums[0].Variants[1].Name }, "bare variant": func(p *api.Prog) *string { return &p.Enums[0].Variants[0].Name },
		"parameter": func(p *api.Prog) *string { return &p.Funcs[0].Params[1].Name }, "local": func(p *api.Prog) *string { return &p.Funcs[0].Locals[1].Name },
		"block": func(p *api.Prog) *string { return &p.Funcs[0].Blocks[6].Name },
		"new":   func(p *api.Prog) *string { return &stmtAt(p, api.SNew).Name }, "tag": func(p *api.Prog) *string { return &stmtAt(p, api.STag).Name }, "tag's variant": func(p *api.Prog) *string { return &stmtAt(p, api.STag).Variant },
		"goto": func(p *api.Prog) *string { return &termAt(p, api.TGoto).Blocks[0] }, "check": func(p *api.Prog) *string { return &termAt(p, api.TCheck).Blocks[0] },
		"if": func(p *api.Prog) *string { return &termAt(p, api.TIf).Blocks[0] }, "else": func(p *api.Prog) *string { return &termAt(p, api.TIf).Blocks[1] },
		"arm's variant": func(p *api.Prog) *string { return &termAt(p, api.TMatch).Arms[1].Variant }, "arm's block": func(p *api.Prog) *string { return &termAt(p, api.TMatch).Arms[1].Block },
		"arm's local": func(p *api.Prog) *string { return &termAt(p, api.TMatch).Arms[1].Local }, "first arm's local": func(p *api.Prog) *string { return &termAt(p, api.TMatch).Arms[0].Local },
		"call": func(p *api.Prog) *string { return &termAt(p, api.TCall).Name }, "call's block": func(p *api.Prog) *string { return &termAt(p, api.TCall).Blocks[0] },
		"catch": func(p *api.Prog) *string { return &termAt(p, api.TCatch).Name }, "catch's block": func(p *api.Prog) *string { return &termAt(p, api.TCatch).Blocks[0] },
	}
}

// P5.1, Right: each name is one: none that is a word, too long, of other bytes or (but an arm's local) of no byte.
func TestRightNames(t *testing.T) {
	for what, at := range nameSpots() {
		for _, name := range goodNames {
			wantRight(t, fmt.Sprintf("%s %q", what, name), true, func(p *api.Prog) { *at(p) = name })
		}
		for _, name := range badNames {
			wantRight(t, fmt.Sprintf("%s %q", what, short(name)), false, func(p *api.Prog) { *at(p) = name })
		}
		wantRight(t, what+" of no byte", strings.HasSuffix(what, "arm's local"), func(p *api.Prog) { *at(p) = "" })
	}
}

// typeSpots: where a type stands in the full program.
func typeSpots() spots[string] {
	return spots[string]{
		"field":     func(p *api.Prog) *string { return &p.Structs[0].Fields[1].Type },
		"payload":   func(p *api.Prog) *string { return &p.Enums[0].Variants[1].Type },
		"result":    func(p *api.Prog) *string { return &p.Funcs[0].Result },
		"parameter": func(p *api.Prog) *string { return &p.Funcs[0].Params[1].Type },
		"local":     func(p *api.Prog) *string { return &p.Funcs[0].Locals[1].Type },
	}
}

// P5.1, Right: at each place where a type stands, plain ones, a ref or a mut, none, and no byte.
func TestRightTypes(t *testing.T) {
	eight := strings.Repeat("box ", 8)
	plain := []string{"int", "a", "pair", "abcdefghijklmnop", "box int", "box pair", eight + "int", eight + "a"}
	none := []string{" ", "box", "box ", "ref", "fn", "Int", "5", "*", "box  int", " int", "int ", "box fn", "box ref int", "ref mut int", "ref ref a", "mut box mut int", "int int", "abcdefghijklmnopq", eight + "box int", "ref box " + eight + "a", "\x00", "int\xff"}
	for what, at := range typeSpots() {
		for _, typ := range plain {
			wantRight(t, fmt.Sprintf("%s %q", what, typ), true, func(p *api.Prog) { *at(p) = typ })
			for _, front := range []string{"ref ", "mut "} {
				wantRight(t, fmt.Sprintf("%s %q", what, front+typ), what == "parameter" || what == "local", func(p *api.Prog) { *at(p) = front + typ })
			}
		}
		for _, typ := range none {
			wantRight(t, fmt.Sprintf("%s %q", what, typ), false, func(p *api.Prog) { *at(p) = typ })
		}
		wantRight(t, what+" of no byte", what == "payload", func(p *api.Prog) { *at(p) = "" })
	}
}

// placeSpots: where a place stands in the full program.
func placeSpots() spots[api.Place] {
	all := spots[api.Place]{}
	for kind := api.SNum; kind <= api.SOut; kind++ {
		if kind != api.SOut {
			all[fmt.Sprint("To of statement ", kind)] = func(p *api.Prog) *api.Place { return &stmtAt(p, kind).To }
		}
		if kind != api.SNum {
			all[fmt.Sprint("Arg of statement ", kind)] = func(p *api.Prog) *api.Place { return &stmtAt(p, kind).Args[len(stmtAt(p, kind).Args)-1] }
		}
	}
	for kind := api.TGoto; kind <= api.TReturn; kind++ {
		if kind == api.TCall || kind == api.TCatch {
			all[fmt.Sprint("To of end ", kind)] = func(p *api.Prog) *api.Place { return &termAt(p, kind).To }
		}
		if kind != api.TGoto && kind != api.TCheck {
			all[fmt.Sprint("Arg of end ", kind)] = func(p *api.Prog) *api.Place { return &termAt(p, kind).Args[len(termAt(p, kind).Args)-1] }
		}
	}
	return all
}

// P5.1, Right: at each spot where a place stands: places, and what is none.
func TestRightPlaces(t *testing.T) {
	if n := len(placeSpots()); n != 10+10+2+5 {
		t.Fatal(n)
	}
	for what, at := range placeSpots() {
		want := func(want bool, x api.Place) {
			t.Helper()
			wantRight(t, fmt.Sprintf("%s: %.80q", what, x), want, func(p *api.Prog) { *at(p) = x })
		}
		for _, name := range goodNames {
			want(true, place(name))
			want(true, place("x", name, "*", name))
		}
		for _, bad := range badNames {
			want(false, place(bad))
			want(false, place(bad, "a"))
			want(bad == "*", place("x", bad))
			want(bad == "*", place("x", "a", "*", bad))
		}
		for _, step := range []string{"a", "*"} {
			want(true, place("x", repeat(8, step)...))
			for _, n := range []int{9, 10, 256, 257} {
				want(false, place("x", repeat(n, step)...))
			}
		}
		for _, x := range []api.Place{{}, place("", "a"), place("", "*"), place("", ""), place("x", ""), place("x", "a", ""), place("x", "", "a"), place("x", append(repeat(7, "a"), "")...)} {
			want(false, x)
		}
	}
}

// P5.1, Right: where a kind has no place, no list and no name, steps alone are too much; a list without elements isn't.
func TestRightNoughts(t *testing.T) {
	for _, at := range []func(p *api.Prog) *api.Place{
		func(p *api.Prog) *api.Place { return &stmtAt(p, api.SOut).To },
		func(p *api.Prog) *api.Place { return &termAt(p, api.TGoto).To }, func(p *api.Prog) *api.Place { return &termAt(p, api.TIf).To }, func(p *api.Prog) *api.Place { return &termAt(p, api.TMatch).To },
		func(p *api.Prog) *api.Place { return &termAt(p, api.TCheck).To }, func(p *api.Prog) *api.Place { return &termAt(p, api.TReturn).To },
	} {
		wantRight(t, "an empty list of steps", true, func(p *api.Prog) { at(p).Steps = []string{} })
		for _, x := range []api.Place{place("x"), place("", "a"), place("", "*"), place("", ""), place(" ")} {
			wantRight(t, fmt.Sprintf("%q where there is none", x), false, func(p *api.Prog) { *at(p) = x })
		}
	}
	wantRight(t, "empty lists", true, func(p *api.Prog) {
		stmtAt(p, api.SNum).Args = []api.Place{}
		stmtAt(p, api.SNum).To.Steps = []string{}
		*termAt(p, api.TGoto) = api.Term{Kind: api.TGoto, Args: []api.Place{}, Blocks: []string{"b"}, Arms: []api.Arm{}}
		*termAt(p, api.TReturn) = api.Term{Kind: api.TReturn, Args: []api.Place{place("x")}, Blocks: []string{}, Arms: []api.Arm{}}
		p.Structs[0].Fields, p.Funcs[0].Params, p.Funcs[0].Locals, p.Funcs[0].Blocks[0].Stmts = []api.Var{}, []api.Var{}, []api.Var{}, []api.Stmt{}
	})
	wantRight(t, "an Arg of noughts where there is none", false, func(p *api.Prog) { stmtAt(p, api.SNum).Args = make([]api.Place, 1) })
	wantRight(t, "a block of no byte where there is none", false, func(p *api.Prog) { termAt(p, api.TReturn).Blocks = make([]string, 1) })
	wantRight(t, "an Arm of noughts where there is none", false, func(p *api.Prog) { termAt(p, api.TGoto).Arms = make([]api.Arm, 1) })
	wantRight(t, "an Arm of noughts", false, func(p *api.Prog) { termAt(p, api.TMatch).Arms = make([]api.Arm, 1) })
}

// P5.1, Right: places in texts may be any numbers, and safe and hook be so or not.
func TestRightAt(t *testing.T) {
	for _, at := range []int{0, 1, -1, 16384, 16385, math.MaxInt, math.MinInt} {
		wantRight(t, fmt.Sprint("At ", at), true, func(p *api.Prog) {
			p.Structs[0].At, p.Enums[0].At, p.Funcs[0].At, p.Funcs[0].Blocks[0].At = at, at, at, at
			for kind := api.SNum; kind <= api.SOut; kind++ {
				stmtAt(p, kind).At = at
			}
			for kind := api.TGoto; kind <= api.TReturn; kind++ {
				termAt(p, kind).At = -at
			}
			p.Structs[0].Safe, p.Structs[1].Hook = at > 0, at < 0
		})
	}
}

// P5.1, Right: whether names are declared, or twice, and types fit, isn't asked.
func TestRightUndeclared(t *testing.T) {
	wantRight(t, "names that stand twice", true, func(p *api.Prog) {
		p.Structs[1] = p.Structs[0]
		p.Enums = append(p.Enums, p.Enums[0], api.Enum{Name: "pair", Variants: repeat(2, api.Var{Name: "v"})})
		p.Funcs[1] = p.Funcs[0]
		p.Funcs[0].Params[0].Name, p.Funcs[0].Params[1].Name, p.Funcs[0].Locals[0].Name = "d", "d", "d"
		p.Funcs[0].Blocks[1].Name = p.Funcs[0].Blocks[0].Name
		termAt(p, api.TMatch).Arms = repeat(2, api.Arm{Variant: "v", Local: "v", Block: "v"})
	})
	wantRight(t, "names that aren't declared", true, func(p *api.Prog) {
		p.Structs, p.Enums, p.Funcs[0].Params, p.Funcs[0].Locals, p.Funcs[0].Result = nil, nil, nil, nil, "box nobody"
		termAt(p, api.TGoto).Blocks[0] = "nowhere"
		stmtAt(p, api.SAdd).Args[0] = place("nobody", "nothing", "*")
	})
}
