package parse_test

import (
	"fmt"
	"slices"
	"strings"
	"testing"

	"drogue/api"
	"drogue/lex"
	"drogue/parse"
	"drogue/tree"
)

// full: each form that the grammar has, in a text that goes by it.
const full = `# declarations in any order
enum opt { none; some box int; }
fn id(x int) int { b: return x; }
struct pair safe hook { a int; b box box pair; }
struct cell safe { }
struct hooked hook { p pair; }
struct bare { }
fn main(p ref pair, q mut box int, r opt) box int {
	let x int;
	let y ref box opt;
b0:
	x = -5; x = 1099511627776; x.*.a = add x p.*.a; x = sub x.b q.*; x = less x x;
	y.* = use x.*; x = box y.a; x = new pair; x = new pair x y.b x.*;
	x = tag opt.none; x.a.b = tag opt.some x.a; y = ref x; y.a = mut x.*; out x; out x.*.*.a;
	goto b1;
b1: if x.a b0 b1;
b2: match x none: b0, some y: b1;
b3: match x.*.c v: b0;
b4: check b0;
b5: call x.a = main(x, y.*, r) b0;
b6: call x = id() b1;
b7: catch x.* = main(x) b5;
b8: out x; return x.a.*;
}
`

// place: the place with a local and steps.
func place(local string, steps ...string) api.Place { return api.Place{Local: local, Steps: steps} }

func places(texts ...string) []api.Place {
	var list []api.Place
	for _, text := range texts {
		parts := strings.Split(text, ".")
		list = append(list, place(parts[0], parts[1:]...))
	}
	return list
}

// short: enough of a text to know it by.
func short(text string) string { return text[:min(len(text), 120)] }

// good: a text's program, which must have no diagnostic and be shaped.
func good(t *testing.T, text string) api.Prog {
	t.Helper()
	p, diags := parse.Parse(text)
	if len(diags) != 0 || !tree.Right(p) {
		t.Fatalf("Parse(%q): %v, shaped: %v", short(text), diags, tree.Right(p))
	}
	return p
}

// wantDiag: a text has that diagnostic alone, and no program beside it.
func wantDiag(t *testing.T, text string, code, at int) {
	t.Helper()
	p, diags := parse.Parse(text)
	if len(diags) != 1 || diags[0] != (api.Diag{At: at, Code: code}) || !tree.Same(p, api.Prog{}) {
		t.Errorf("Parse(%q): %v, want code %d at %d", short(text), diags, code, at)
	}
}

// wantMarked: a text, without the ^ in it, has that diagnostic where the ^ stood.
func wantMarked(t *testing.T, code int, marked string) {
	t.Helper()
	at := strings.Index(marked, "^")
	if at < 0 {
		t.Fatal("no mark:", short(marked))
	}
	wantDiag(t, strings.Replace(marked, "^", "", 1), code, at)
}

// inBody: a function with that in its first block, ahead of the end.
func inBody(stmts string) string { return "fn f() int { let x int; b: " + stmts + " goto b; }" }

// withEnd: a function with that as the end of its block.
func withEnd(end string) string { return "fn f() int { b: x = 1; " + end + " }" }

// P6.1: what each declaration holds, each list in its order.
func TestDeclarations(t *testing.T) {
	p := good(t, full)
	var names []string
	for _, s := range p.Structs {
		names = append(names, fmt.Sprintln(s.Name, s.Safe, s.Hook, s.Fields))
	}
	if got := strings.Join(names, ""); got != "pair true true [{a int} {b box box pair}]\ncell true false []\nhooked false true [{p pair}]\nbare false false []\n" {
		t.Error(got)
	}
	if len(p.Enums) != 1 || p.Enums[0].Name != "opt" || !slices.Equal(p.Enums[0].Variants, []api.Var{{Name: "none"}, {Name: "some", Type: "box int"}}) {
		t.Error(p.Enums)
	}
	if len(p.Funcs) != 2 || p.Funcs[0].Name != "id" || p.Funcs[1].Name != "main" || p.Funcs[0].Result != "int" || p.Funcs[1].Result != "box int" {
		t.Fatal(p.Funcs)
	}
	f := p.Funcs[1]
	if !slices.Equal(f.Params, []api.Var{{Name: "p", Type: "ref pair"}, {Name: "q", Type: "mut box int"}, {Name: "r", Type: "opt"}}) || !slices.Equal(f.Locals, []api.Var{{Name: "x", Type: "int"}, {Name: "y", Type: "ref box opt"}}) {
		t.Error(f.Params, f.Locals)
	}
	for i, b := range f.Blocks {
		if b.Name != fmt.Sprint("b", i) {
			t.Error(i, b.Name)
		}
	}
}

// P6.1: what each statement holds.
func TestStatements(t *testing.T) {
	want := []api.Stmt{
		{Kind: api.SNum, To: place("x"), N: -5}, {Kind: api.SNum, To: place("x"), N: 1 << 40},
		{Kind: api.SAdd, To: place("x", "*", "a"), Args: places("x", "p.*.a")}, {Kind: api.SSub, To: place("x"), Args: places("x.b", "q.*")}, {Kind: api.SLess, To: place("x"), Args: places("x", "x")},
		{Kind: api.SUse, To: place("y", "*"), Args: places("x.*")}, {Kind: api.SBox, To: place("x"), Args: places("y.a")},
		{Kind: api.SNew, To: place("x"), Name: "pair"}, {Kind: api.SNew, To: place("x"), Name: "pair", Args: places("x", "y.b", "x.*")},
		{Kind: api.STag, To: place("x"), Name: "opt", Variant: "none"}, {Kind: api.STag, To: place("x", "a", "b"), Name: "opt", Variant: "some", Args: places("x.a")},
		{Kind: api.SRef, To: place("y"), Args: places("x")}, {Kind: api.SMut, To: place("y", "a"), Args: places("x.*")},
		{Kind: api.SOut, Args: places("x")}, {Kind: api.SOut, Args: places("x.*.*.a")},
	}
	p := good(t, full)
	got := p.Funcs[1].Blocks[0].Stmts
	if len(got) != len(want) {
		t.Fatal(len(got), "statements")
	}
	for i := range want {
		a, b := full[got[i].At:], want[i]
		b.At = got[i].At
		if fmt.Sprint(got[i]) != fmt.Sprint(b) || full[got[i].At-1] != ' ' && full[got[i].At-1] != '\t' {
			t.Errorf("%q: %v, want %v", short(a), got[i], b)
		}
	}
}

// P6.1: what each end holds.
func TestEnds(t *testing.T) {
	want := []api.Term{
		{Kind: api.TGoto, Blocks: []string{"b1"}}, {Kind: api.TIf, Args: places("x.a"), Blocks: []string{"b0", "b1"}},
		{Kind: api.TMatch, Args: places("x"), Arms: []api.Arm{{Variant: "none", Block: "b0"}, {Variant: "some", Local: "y", Block: "b1"}}},
		{Kind: api.TMatch, Args: places("x.*.c"), Arms: []api.Arm{{Variant: "v", Block: "b0"}}}, {Kind: api.TCheck, Blocks: []string{"b0"}},
		{Kind: api.TCall, To: place("x", "a"), Name: "main", Args: places("x", "y.*", "r"), Blocks: []string{"b0"}},
		{Kind: api.TCall, To: place("x"), Name: "id", Blocks: []string{"b1"}}, {Kind: api.TCatch, To: place("x", "*"), Name: "main", Args: places("x"), Blocks: []string{"b5"}},
		{Kind: api.TReturn, Args: places("x.a.*")},
	}
	words := strings.Fields("goto if match match check call call catch return")
	p := good(t, full)
	for i, b := range p.Funcs[1].Blocks {
		want[i].At = b.Term.At
		if fmt.Sprint(b.Term) != fmt.Sprint(want[i]) || !strings.HasPrefix(full[b.Term.At:], words[i]+" ") {
			t.Errorf("%v, want %v", b.Term, want[i])
		}
	}
}

// P6.2: At is where the chapter says, with anything between the tokens.
func TestAt(t *testing.T) {
	text := " #\n struct a{} \t enum e{v;}\n\n#fn\n fn f(p int)int{let x int;let y int;  b0:x.a=1; #\n out x;y=2;goto b0;b1 : return p;}struct c{}"
	p := good(t, text)
	f := p.Funcs[0]
	var got []int
	for _, s := range p.Structs {
		got = append(got, s.At)
	}
	got = append(got, p.Enums[0].At, f.At)
	for _, b := range f.Blocks {
		got = append(got, b.At)
		for _, s := range b.Stmts {
			got = append(got, s.At)
		}
		got = append(got, b.Term.At)
	}
	var want []int
	for _, part := range []string{"struct a", "struct c", "enum e", "fn f", "b0:", "x.a", "out x", "y=2", "goto", "b1 ", "return"} {
		want = append(want, strings.Index(text, part))
	}
	if !slices.Equal(got, want) {
		t.Errorf("%v, want %v", got, want)
	}
}

// P6.1: nothing, blanks and remarks are a program without declarations; the chapter's example.
func TestSmall(t *testing.T) {
	for _, text := range []string{"", " ", "\n\t ", "#", " # fn", "# a\n", strings.Repeat(" ", api.MaxText), strings.Repeat("#", api.MaxText)} {
		if p := good(t, text); !tree.Same(p, api.Prog{}) {
			t.Errorf("%q: %v", short(text), p)
		}
	}
	p := good(t, "fn main() int { let x int; b: x = 5; return x; }")
	if len(p.Funcs) != 1 || len(p.Funcs[0].Blocks) != 1 {
		t.Error(p)
	}
}

// P6.1: layer 3's diagnostics are told as they are, ahead of all others.
func TestTokens(t *testing.T) {
	long := strings.Repeat("a", 17)
	for _, text := range []string{"$", "struct $", "; $", "struct a { } ; -", "fn f(" + long, inBody("x = 1099511627777;"), inBody("x = - 5;"), strings.Repeat("struct a { }", 17) + "$", "a\xff", "struct A { }"} {
		_, diag := lex.Lex(text)
		if diag.Code != api.DToken {
			t.Fatal(text, diag)
		}
		wantDiag(t, text, diag.Code, diag.At)
	}
	wantDiag(t, strings.Repeat(" ", api.MaxText+1), api.DMany, api.MaxText)
	wantDiag(t, strings.Repeat(";", api.MaxText+1), api.DMany, api.MaxText)
	wantDiag(t, strings.Repeat(";", api.MaxText), api.DSyntax, 0)
	wantDiag(t, "$"+strings.Repeat("struct a { }", 5000), api.DMany, api.MaxText)
	wantDiag(t, strings.Repeat(" ", api.MaxText-1)+"x", api.DSyntax, api.MaxText-1)
}

// P1 and rule 4: what is answered is new memory, spare room too, and no two lists of it share any.
func TestAnew(t *testing.T) {
	text := full + inBody("x = new p a.b c.d e.f g.h i.j; x = add a.b.c d.e.f;")
	p, kept := good(t, text), good(t, text)
	spoilPlace := func(x api.Place) { spoil(x.Steps, "spoilt") }
	for i := range p.Funcs {
		for _, b := range p.Funcs[i].Blocks {
			for _, s := range b.Stmts {
				before := fmt.Sprint(s.To, s.Args)
				spoilPlace(s.To)
				for _, a := range s.Args {
					spoilPlace(a)
				}
				spoil(s.Args, place("spoilt"))
				if after := fmt.Sprint(s.To, s.Args); before != after {
					t.Error(before, after)
				}
			}
			spoil(b.Stmts, api.Stmt{Kind: 99})
			spoil(b.Term.Args, place("spoilt"))
			spoil(b.Term.Blocks, "spoilt")
			spoil(b.Term.Arms, api.Arm{Variant: "spoilt"})
		}
		spoil(p.Funcs[i].Params, api.Var{Name: "spoilt"})
		spoil(p.Funcs[i].Locals, api.Var{Name: "spoilt"})
		spoil(p.Funcs[i].Blocks, api.Block{Name: "spoilt"})
	}
	if !tree.Same(p, kept) {
		t.Error("lists share memory")
	}
	p.Funcs[0].Blocks[0].Name = "other"
	if !tree.Same(good(t, text), kept) {
		t.Error("an answer hangs on an earlier one")
	}
	_, a := parse.Parse("x")
	_, b := parse.Parse("x")
	a[0].At = 7
	if b[0].At != 0 {
		t.Error("diagnostics share memory")
	}
}

// spoil: writes into what lies behind a list's length.
func spoil[T any](list []T, x T) {
	rest := list[len(list):cap(list)]
	for i := range rest {
		rest[i] = x
	}
}
