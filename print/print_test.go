package print_test

import (
	"math"
	"slices"
	"strings"
	"testing"

	"drogue/api"
	"drogue/parse"
	"drogue/print"
	"drogue/tree"
)

// full: each form that a program has, as its text is to be.
const full = `struct pair safe hook {
	a int;
	b box box pair;
}

struct cell safe {
	p pair;
}

struct hooked hook {
}

struct bare {
	x opt;
}

enum opt {
	none;
	some box int;
}

enum one {
	only;
}

fn main(p ref pair, q mut box int, r opt) box int {
	let x int;
	let y ref box opt;
b0:
	x = -5;
	x.*.a = add x p.*.a;
	x = sub x.b q.*;
	x = less x x;
	y.* = use x.*;
	x = box y.a;
	x = new pair;
	x.a = new pair x y.b x.*;
	x = tag opt.none;
	x.a.b = tag opt.some x.a;
	y = ref x;
	y.a = mut x.*;
	out x.*.*.a;
	goto b1;
b1:
	if x.a b0 b1;
b2:
	match x none: b0, some y: b1;
b3:
	match x.*.c v: b0;
b4:
	check b0;
b5:
	call x.a = main(x, y.*, r) b0;
b6:
	call x = id() b1;
b7:
	catch x.* = main(x.a.*) b5;
b8:
	out x;
	return x.a.*;
}

fn id(x int) int {
b:
	return x;
}

fn none() one {
	let x one;
b:
	return x;
}
`

func place(local string, steps ...string) api.Place { return api.Place{Local: local, Steps: steps} }

func places(list ...api.Place) []api.Place { return list }

// parsed: a text's program.
func parsed(t *testing.T, text string) api.Prog {
	t.Helper()
	p, diags := parse.Parse(text)
	if len(diags) != 0 {
		t.Fatalf("Parse: %v: %s", diags, text)
	}
	return p
}

// wantText: a program has that text, and that is parsed as it.
func wantText(t *testing.T, p api.Prog, want string) {
	t.Helper()
	got, ok := print.Print(p)
	if !ok || got != want {
		t.Fatalf("Print: %v:\n%s\nwant:\n%s", ok, got, want)
	}
	if back, diags := parse.Parse(got); len(diags) != 0 || !tree.Same(back, p) {
		t.Fatalf("parsed again: %v:\n%s", diags, got)
	}
}

// wantNone: a program has no text.
func wantNone(t *testing.T, what string, p api.Prog) {
	t.Helper()
	if got, ok := print.Print(p); ok || got != "" {
		t.Errorf("Print, of %s: %v, %d bytes", what, ok, len(got))
	}
}

// P7.1: each form that there is.
func TestFull(t *testing.T) {
	wantText(t, parsed(t, full), full)
}

// P7.1: blanks, tabs, lines and remarks of a text that was parsed, and the order of unlike declarations in it, are nothing to its program's text.
func TestLaidOut(t *testing.T) {
	wide := strings.NewReplacer("\n", " # x\n\n", "\t", " ", ";", " ;", "(", " ( ", ".", " . ", ":", " : ", "-5", "-0005").Replace(full)
	wantText(t, parsed(t, wide), full)
	list, _ := strings.CutSuffix(full, "\n}\n")
	wantText(t, parsed(t, strings.ReplaceAll(list, "\n", " ")+"}"), full)
	wantText(t, parsed(t, "fn f() int{b:return x;}enum e{a;}struct s{}fn g() int{b:return x;}struct r{}enum d{a;}"),
		"struct s {\n}\n\nstruct r {\n}\n\nenum e {\n\ta;\n}\n\nenum d {\n\ta;\n}\n\nfn f() int {\nb:\n\treturn x;\n}\n\nfn g() int {\nb:\n\treturn x;\n}\n")
}

// P7.1: the empty program has a text, one of no signs.
func TestNothing(t *testing.T) {
	wantText(t, api.Prog{}, "")
	wantText(t, api.Prog{Structs: []api.Struct{}, Enums: []api.Enum{}, Funcs: []api.Func{}}, "")
}

// P7.1: lists that are empty, and what At tells, leave nothing in the text.
func TestSmall(t *testing.T) {
	end := api.Term{At: -8, Kind: api.TReturn, Args: places(place("x"))}
	b := api.Block{At: math.MinInt, Name: "b", Stmts: []api.Stmt{}, Term: end}
	for _, c := range []struct {
		p    api.Prog
		want string
	}{
		{api.Prog{Structs: []api.Struct{{At: 77, Name: "s"}}}, "struct s {\n}\n"},
		{api.Prog{Structs: []api.Struct{{Name: "s", Hook: true, Safe: true, Fields: []api.Var{}}}}, "struct s safe hook {\n}\n"},
		{api.Prog{Structs: []api.Struct{{Name: "s"}, {Name: "s"}}}, "struct s {\n}\n\nstruct s {\n}\n"},
		{api.Prog{Enums: []api.Enum{{At: math.MaxInt, Name: "e", Variants: []api.Var{{Name: "a"}}}}}, "enum e {\n\ta;\n}\n"},
		{api.Prog{Funcs: []api.Func{{At: 5, Name: "f", Params: []api.Var{}, Result: "int", Blocks: []api.Block{b}}}}, "fn f() int {\nb:\n\treturn x;\n}\n"},
		{api.Prog{Funcs: []api.Func{{Name: "f", Result: "box int", Locals: []api.Var{{Name: "x", Type: "mut box y"}}, Blocks: []api.Block{b, b}}}}, "fn f() box int {\n\tlet x mut box y;\nb:\n\treturn x;\nb:\n\treturn x;\n}\n"},
	} {
		wantText(t, c.p, c.want)
	}
}

// inProgram: a program with a statement, and one with an end.
func inProgram(s api.Stmt, e api.Term) api.Prog {
	return api.Prog{Funcs: []api.Func{{Name: "f", Result: "int", Blocks: []api.Block{{Name: "b", Stmts: []api.Stmt{s}, Term: e}}}}}
}

var (
	someStmt = api.Stmt{Kind: api.SOut, Args: places(place("x"))}
	someTerm = api.Term{Kind: api.TCheck, Blocks: []string{"b"}}
)

// P7.1, Stmt: each kind, with as few and as many places as it may have; and how it stands in a program's text.
func TestStmt(t *testing.T) {
	x, y, z := place("x"), place("y", "*"), place("z", "a", "*", "*", "b")
	most := place("a", "*", "b", "*", "c", "*", "d", "*", "e")
	sixteen := slices.Repeat(places(y), 16)
	for _, c := range []struct {
		s    api.Stmt
		want string
	}{
		{api.Stmt{Kind: api.SNum, To: x}, "x = 0;"},
		{api.Stmt{Kind: api.SNum, To: y, N: 7}, "y.* = 7;"},
		{api.Stmt{Kind: api.SNum, To: z, N: -1, At: -1}, "z.a.*.*.b = -1;"},
		{api.Stmt{Kind: api.SNum, To: x, N: 1 << 40}, "x = 1099511627776;"},
		{api.Stmt{Kind: api.SNum, To: x, N: -1 << 40}, "x = -1099511627776;"},
		{api.Stmt{Kind: api.SAdd, To: x, Args: places(y, z)}, "x = add y.* z.a.*.*.b;"},
		{api.Stmt{Kind: api.SSub, To: y, Args: places(x, x)}, "y.* = sub x x;"},
		{api.Stmt{Kind: api.SLess, To: z, Args: places(z, y)}, "z.a.*.*.b = less z.a.*.*.b y.*;"},
		{api.Stmt{Kind: api.SUse, To: x, Args: places(y)}, "x = use y.*;"},
		{api.Stmt{Kind: api.SBox, To: x, Args: places(x)}, "x = box x;"},
		{api.Stmt{Kind: api.SNew, To: x, Name: "pair"}, "x = new pair;"},
		{api.Stmt{Kind: api.SNew, To: x, Name: "pair", Args: places(z, x, y)}, "x = new pair z.a.*.*.b x y.*;"},
		{api.Stmt{Kind: api.SNew, To: x, Name: "p", Args: sixteen}, "x = new p" + strings.Repeat(" y.*", 16) + ";"},
		{api.Stmt{Kind: api.STag, To: x, Name: "opt", Variant: "some", Args: places(y)}, "x = tag opt.some y.*;"},
		{api.Stmt{Kind: api.STag, To: x, Name: "opt", Variant: "none", Args: places()}, "x = tag opt.none;"},
		{api.Stmt{Kind: api.SRef, To: x, Args: places(y)}, "x = ref y.*;"},
		{api.Stmt{Kind: api.SMut, To: x, Args: places(most)}, "x = mut a.*.b.*.c.*.d.*.e;"},
		{api.Stmt{Kind: api.SOut, Args: places(z), At: math.MaxInt}, "out z.a.*.*.b;"},
	} {
		if got := print.Stmt(c.s); got != c.want {
			t.Errorf("Stmt: %q, want %q", got, c.want)
		}
		wantText(t, inProgram(c.s, someTerm), "fn f() int {\nb:\n\t"+c.want+"\n\tcheck b;\n}\n")
	}
}

// P7.1, Term: each kind, with as few and as many places and arms as it may have; and how it stands in a program's text.
func TestTerm(t *testing.T) {
	x, y := place("x"), place("y", "*", "a")
	arms := slices.Repeat([]api.Arm{{Variant: "v", Local: "x", Block: "b"}}, 16)
	for _, c := range []struct {
		e    api.Term
		want string
	}{
		{api.Term{Kind: api.TGoto, Blocks: []string{"b1"}, At: -1}, "goto b1;"},
		{api.Term{Kind: api.TIf, Args: places(y), Blocks: []string{"b0", "b1"}}, "if y.*.a b0 b1;"},
		{api.Term{Kind: api.TMatch, Args: places(x), Arms: []api.Arm{{Variant: "none", Block: "b0"}, {Variant: "some", Local: "y", Block: "b1"}}}, "match x none: b0, some y: b1;"},
		{api.Term{Kind: api.TMatch, Args: places(y), Arms: []api.Arm{{Variant: "a", Block: "b0"}}}, "match y.*.a a: b0;"},
		{api.Term{Kind: api.TMatch, Args: places(x), Arms: arms}, "match x" + strings.Repeat(" v x: b,", 15) + " v x: b;"},
		{api.Term{Kind: api.TCheck, Blocks: []string{"b"}}, "check b;"},
		{api.Term{Kind: api.TCall, To: x, Name: "f", Args: places(y, place("z")), Blocks: []string{"b0"}}, "call x = f(y.*.a, z) b0;"},
		{api.Term{Kind: api.TCall, To: y, Name: "f", Blocks: []string{"b0"}, Arms: []api.Arm{}}, "call y.*.a = f() b0;"},
		{api.Term{Kind: api.TCatch, To: x, Name: "f", Args: places(place("z", "*")), Blocks: []string{"b0"}}, "catch x = f(z.*) b0;"},
		{api.Term{Kind: api.TCatch, To: x, Name: "f", Args: slices.Repeat(places(x), 16), Blocks: []string{"b0"}}, "catch x = f(" + strings.Repeat("x, ", 15) + "x) b0;"},
		{api.Term{Kind: api.TReturn, Args: places(y), At: math.MaxInt}, "return y.*.a;"},
	} {
		if got := print.Term(c.e); got != c.want {
			t.Errorf("Term: %q, want %q", got, c.want)
		}
		wantText(t, inProgram(someStmt, c.e), "fn f() int {\nb:\n\tout x;\n\t"+c.want+"\n}\n")
	}
}

// P7.1: Stmt and Term tell no signs of what isn't shaped, nor has a program with it a text.
func TestUnshapedLines(t *testing.T) {
	x := place("x")
	long := place("x", slices.Repeat([]string{"*"}, 9)...)
	for i, s := range []api.Stmt{
		{}, {Kind: -1}, {Kind: 12, To: x, Args: places(x)}, {Kind: math.MaxInt}, {Kind: api.SNum},
		{Kind: api.SNum, To: x, N: 1<<40 + 1}, {Kind: api.SNum, To: x, N: math.MinInt64}, {Kind: api.SNum, To: x, Args: places(x)},
		{Kind: api.SNum, To: place("")}, {Kind: api.SNum, To: place("x", "")}, {Kind: api.SNum, To: place("*")}, {Kind: api.SNum, To: long},
		{Kind: api.SAdd, To: x, Args: places(x)}, {Kind: api.SSub, To: x, Args: places(x, x, x)}, {Kind: api.SLess, Args: places(x, x)},
		{Kind: api.SUse, To: x}, {Kind: api.SUse, To: x, Args: places(x), N: 1}, {Kind: api.SBox, To: x, Args: places(x), Name: "a"},
		{Kind: api.SNew, To: x}, {Kind: api.SNew, To: x, Name: "box"}, {Kind: api.SNew, To: x, Name: "a", Args: slices.Repeat(places(x), 17)},
		{Kind: api.STag, To: x, Name: "a"}, {Kind: api.STag, To: x, Variant: "a"}, {Kind: api.STag, To: x, Name: "a", Variant: "b", Args: places(x, x)},
		{Kind: api.SRef, To: x, Args: places(place("int"))}, {Kind: api.SMut, To: x, Args: places(place("x;"))},
		{Kind: api.SOut}, {Kind: api.SOut, To: x, Args: places(x)}, {Kind: api.SOut, Args: places(api.Place{})}, {Kind: api.SOut, Args: places(place("abcdefghijklmnopq"))},
	} {
		if got := print.Stmt(s); got != "" {
			t.Errorf("Stmt, of the %dth: %q", i, got)
		}
		wantNone(t, "a statement that isn't shaped", inProgram(s, someTerm))
	}
	for i, e := range []api.Term{
		{}, {Kind: -1}, {Kind: 8, Blocks: []string{"b"}}, {Kind: math.MinInt}, {Kind: api.TGoto}, {Kind: api.TGoto, Blocks: []string{"b", "b"}},
		{Kind: api.TGoto, Blocks: []string{""}}, {Kind: api.TIf, Args: places(x)}, {Kind: api.TIf, Args: places(x), Blocks: []string{"b"}},
		{Kind: api.TMatch, Args: places(x)}, {Kind: api.TMatch, Args: places(x), Arms: make([]api.Arm, 1)},
		{Kind: api.TMatch, Args: places(x), Arms: slices.Repeat([]api.Arm{{Variant: "v", Block: "b"}}, 17)},
		{Kind: api.TMatch, Args: places(x), Arms: []api.Arm{{Variant: "v", Local: "*", Block: "b"}}}, {Kind: api.TMatch, Arms: []api.Arm{{Variant: "v", Block: "b"}}},
		{Kind: api.TCheck, Blocks: []string{"goto"}}, {Kind: api.TCheck, Args: places(x), Blocks: []string{"b"}},
		{Kind: api.TCall, Name: "f", Blocks: []string{"b"}}, {Kind: api.TCall, To: x, Blocks: []string{"b"}}, {Kind: api.TCall, To: x, Name: "f"},
		{Kind: api.TCatch, To: x, Name: "f(", Blocks: []string{"b"}}, {Kind: api.TCatch, To: x, Name: "f", Args: slices.Repeat(places(x), 17), Blocks: []string{"b"}},
		{Kind: api.TReturn}, {Kind: api.TReturn, Args: places(x), Name: "f"}, {Kind: api.TReturn, Args: places(place("x", "a.b"))},
	} {
		if got := print.Term(e); got != "" {
			t.Errorf("Term, of the %dth: %q", i, got)
		}
		wantNone(t, "an end that isn't shaped", inProgram(someStmt, e))
	}
}

// P7.1: a program that isn't shaped has no text, whatever part of it is wrong.
func TestUnshaped(t *testing.T) {
	for what, spoil := range map[string]func(p *api.Prog){
		"a struct's name":     func(p *api.Prog) { p.Structs[3].Name = "" },
		"a field's name":      func(p *api.Prog) { p.Structs[0].Fields[1].Name = "B" },
		"a field's type":      func(p *api.Prog) { p.Structs[0].Fields[1].Type = "box  int" },
		"a lent field":        func(p *api.Prog) { p.Structs[3].Fields[0].Type = "ref int" },
		"17 structs":          func(p *api.Prog) { p.Structs = slices.Repeat(p.Structs[:1], 17) },
		"17 fields":           func(p *api.Prog) { p.Structs[0].Fields = slices.Repeat(p.Structs[0].Fields[:1], 17) },
		"an enum's name":      func(p *api.Prog) { p.Enums[0].Name = "enum" },
		"no variant":          func(p *api.Prog) { p.Enums[1].Variants = nil },
		"a payload":           func(p *api.Prog) { p.Enums[1].Variants[0].Type = "box" },
		"17 enums":            func(p *api.Prog) { p.Enums = slices.Repeat(p.Enums[:1], 17) },
		"a function's name":   func(p *api.Prog) { p.Funcs[2].Name = "f g" },
		"a lent result":       func(p *api.Prog) { p.Funcs[2].Result = "mut int" },
		"no result":           func(p *api.Prog) { p.Funcs[2].Result = "" },
		"a parameter's type":  func(p *api.Prog) { p.Funcs[0].Params[0].Type = "ref ref int" },
		"a local without one": func(p *api.Prog) { p.Funcs[0].Locals[0].Type = "" },
		"25 locals":           func(p *api.Prog) { p.Funcs[0].Locals = slices.Repeat(p.Funcs[0].Locals[:1], 22) },
		"17 functions":        func(p *api.Prog) { p.Funcs = slices.Repeat(p.Funcs[1:2], 17) },
		"a block's name":      func(p *api.Prog) { p.Funcs[1].Blocks[0].Name = "b:" },
		"no block":            func(p *api.Prog) { p.Funcs[1].Blocks = nil },
		"65 blocks":           func(p *api.Prog) { p.Funcs[1].Blocks = slices.Repeat(p.Funcs[1].Blocks, 65) },
		"65 statements":       func(p *api.Prog) { p.Funcs[1].Blocks[0].Stmts = slices.Repeat([]api.Stmt{someStmt}, 65) },
		"no end":              func(p *api.Prog) { p.Funcs[1].Blocks[0].Term = api.Term{} },
	} {
		p := parsed(t, full)
		spoil(&p)
		wantNone(t, what, p)
	}
}

// sized: a program with one function, whose text has so many bytes: from 200 to about 16,600.
func sized(size int) api.Prog {
	f := api.Func{Name: "f", Result: "int", Blocks: slices.Repeat([]api.Block{{Name: "b", Term: someTerm}}, 13)}
	left := size - len("fn f() int {\n}\n") - 13*len("b:\n\tcheck b;\n")
	for i := 0; left > 0; i++ {
		// A line has 8 to 20 bytes, by its number; what is left behind it must be enough for another one.
		n := min(20, left)
		if left > n && left < n+8 {
			n -= 8
		}
		number := int64(1)
		for range n - 8 {
			number *= 10
		}
		b := &f.Blocks[i/64]
		b.Stmts = append(b.Stmts, api.Stmt{Kind: api.SNum, To: place("x"), N: number})
		left -= n
	}
	return api.Prog{Funcs: []api.Func{f}}
}

// P7.1: a text has at most 16,384 bytes.
func TestBound(t *testing.T) {
	for size := 16300; size < 16500; size++ {
		p := sized(size)
		if !tree.Right(p) {
			t.Fatal("isn't shaped")
		}
		if size > 16384 {
			wantNone(t, "more than 16,384 bytes", p)
			continue
		}
		text, ok := print.Print(p)
		if !ok || len(text) != size {
			t.Fatal(size, ok, len(text))
		}
		wantText(t, p, text)
	}
}

// P7.1: a text that is one byte too long, or more, by a part of it, whichever, isn't told.
func TestTooLong(t *testing.T) {
	p := sized(16384 - len("struct a {\n}\n\nenum e {\n\ta;\n}\n\n"))
	p.Structs = []api.Struct{{Name: "a"}}
	p.Enums = []api.Enum{{Name: "e", Variants: []api.Var{{Name: "a"}}}}
	if text, ok := print.Print(p); !ok || len(text) != 16384 {
		t.Fatal(ok, len(text))
	}
	for what, longer := range map[string]func(p *api.Prog){
		"a struct's name":   func(p *api.Prog) { p.Structs[0].Name = "ab" },
		"safe":              func(p *api.Prog) { p.Structs[0].Safe = true },
		"hook":              func(p *api.Prog) { p.Structs[0].Hook = true },
		"a field":           func(p *api.Prog) { p.Structs[0].Fields = []api.Var{{Name: "a", Type: "b"}} },
		"an enum's name":    func(p *api.Prog) { p.Enums[0].Name = "ef" },
		"a payload":         func(p *api.Prog) { p.Enums[0].Variants[0].Type = "a" },
		"another enum":      func(p *api.Prog) { p.Enums = slices.Repeat(p.Enums, 2) },
		"a function's name": func(p *api.Prog) { p.Funcs[0].Name = "fg" },
		"a result":          func(p *api.Prog) { p.Funcs[0].Result = "intx" },
		"a parameter":       func(p *api.Prog) { p.Funcs[0].Params = []api.Var{{Name: "a", Type: "b"}} },
		"a local":           func(p *api.Prog) { p.Funcs[0].Locals = []api.Var{{Name: "a", Type: "b"}} },
		"a block's name":    func(p *api.Prog) { p.Funcs[0].Blocks[0].Name = "bc" },
		"the last name":     func(p *api.Prog) { p.Funcs[0].Blocks[12].Name = "bc" },
		"the last end":      func(p *api.Prog) { p.Funcs[0].Blocks[12].Term.Blocks = []string{"bc"} },
		"a number":          func(p *api.Prog) { p.Funcs[0].Blocks[3].Stmts[5].N *= -1 },
		"another block":     func(p *api.Prog) { p.Funcs[0].Blocks = append(p.Funcs[0].Blocks, p.Funcs[0].Blocks[1]) },
		"another function":  func(p *api.Prog) { p.Funcs = slices.Repeat(p.Funcs, 2) },
	} {
		q := tree.Clone(p)
		longer(&q)
		if !tree.Right(q) {
			t.Error(what, "isn't shaped")
		}
		wantNone(t, what, q)
	}
}

// P7.1: all declarations as great as they may be: far more than a text may have.
func TestGreatest(t *testing.T) {
	name := strings.Repeat("z", 16)
	vars := slices.Repeat([]api.Var{{Name: name, Type: strings.Repeat("box ", 8) + name}}, 16)
	far := place(name, slices.Repeat([]string{name}, 8)...)
	stmts := slices.Repeat([]api.Stmt{{Kind: api.SNew, To: far, Name: name, Args: slices.Repeat(places(far), 16)}}, 64)
	end := api.Term{Kind: api.TCatch, To: far, Name: name, Args: slices.Repeat(places(far), 16), Blocks: []string{name}}
	f := api.Func{Name: name, Params: vars, Locals: vars[:8], Result: vars[0].Type, Blocks: slices.Repeat([]api.Block{{Name: name, Stmts: stmts, Term: end}}, 64)}
	p := api.Prog{
		Structs: slices.Repeat([]api.Struct{{Name: name, Safe: true, Hook: true, Fields: vars}}, 16),
		Enums:   slices.Repeat([]api.Enum{{Name: name, Variants: vars}}, 16),
		Funcs:   []api.Func{f},
	}
	if !tree.Right(p) {
		t.Fatal("isn't shaped")
	}
	wantNone(t, "the greatest", p)
	wantNone(t, "the greatest structs", api.Prog{Structs: p.Structs})
	if got := print.Stmt(stmts[0]); len(got) != 17*(9*16+8)+16+len(" = new  ;")+15 || parsedLine(t, got) != got {
		t.Error(len(got))
	}
}

// parsedLine: the line of the statement that a line is parsed as.
func parsedLine(t *testing.T, line string) string {
	t.Helper()
	return print.Stmt(parsed(t, "fn f() int { b: "+line+" goto b; }").Funcs[0].Blocks[0].Stmts[0])
}

// P7.1: the chapter's examples.
func TestExamples(t *testing.T) {
	p := parsed(t, "fn f() int { b0: x = tag opt.some y.*; match x none: b0, some y: b1; b1: call x = f(y, z.a) b0; }")
	first, second := p.Funcs[0].Blocks[0], p.Funcs[0].Blocks[1]
	for want, got := range map[string]string{
		"x = tag opt.some y.*;":         print.Stmt(first.Stmts[0]),
		"match x none: b0, some y: b1;": print.Term(first.Term),
		"call x = f(y, z.a) b0;":        print.Term(second.Term),
	} {
		if got != want {
			t.Errorf("%q, want %q", got, want)
		}
	}
}

// Rule 4: what is handed in isn't changed, nor what lies behind a list's length; and rule 5: a second call tells the same.
func TestUnchanged(t *testing.T) {
	p := parsed(t, full)
	f := &p.Funcs[0]
	f.Params = append(f.Params[:3:3], api.Var{Name: "spare"})[:3]
	b := &f.Blocks[1]
	b.Stmts = []api.Stmt{{Kind: api.SOut, Args: append(places(place("x")), place("spare"))[:1]}, {N: 99}}[:1]
	b.Term.Blocks = []string{"b0", "b1", "spare"}[:2]
	c := tree.Clone(p)
	one, _ := print.Print(p)
	line, end := print.Stmt(b.Stmts[0]), print.Term(b.Term)
	if !tree.Same(c, p) || f.Params[:4][3].Name != "spare" || b.Stmts[0].Args[:2][1].Local != "spare" || b.Stmts[:2][1].N != 99 || b.Term.Blocks[:3][2] != "spare" {
		t.Error("changed")
	}
	if two, _ := print.Print(p); two != one || print.Stmt(b.Stmts[0]) != line || print.Term(b.Term) != end || line != "out x;" || end != "if x.a b0 b1;" {
		t.Error("not the same again")
	}
}
