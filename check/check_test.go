package check_test

import (
	"fmt"
	"slices"
	"strings"
	"testing"

	"drogue/api"
	"drogue/check"
	"drogue/parse"
)

// parsed: the program of a text.
func parsed(t *testing.T, text string) api.Prog {
	t.Helper()
	p, diags := parse.Parse(text)
	if len(diags) != 0 {
		t.Fatalf("%v of %q", diags, text)
	}
	return p
}

// word: a code as a word; no signs of 0.
func word(code int) string {
	switch code {
	case 0:
		return ""
	case api.DSyntax:
		return "syntax"
	case api.DTwice:
		return "twice"
	case api.DName:
		return "name"
	case api.DType:
		return "type"
	case api.DPlace:
		return "place"
	case api.DSize:
		return "size"
	case api.DMain:
		return "main"
	}
	return fmt.Sprint("code", code)
}

// told: diagnostics as words, each with the beginning of the text at its place.
func told(text string, diags []api.Diag) string {
	var list []string
	for _, d := range diags {
		end := min(d.At+3, len(text))
		list = append(list, text[d.At:end]+" "+word(d.Code))
	}
	return strings.Join(list, ", ")
}

func wantDiags(t *testing.T, text, want string) {
	t.Helper()
	if got := told(text, check.Check(parsed(t, text))); got != want {
		t.Errorf("%q of %q, want %q", got, text, want)
	}
}

// body is what may stand behind a function's result; it has no fault.
const body = " { let x int; b: x = 1; return x; } "

const main = "fn main() int" + body

// P9.1: a program of which all parts fit has no diagnostics, whatever names functions share with structs, enums, fields, blocks and locals.
func TestRight(t *testing.T) {
	for _, text := range []string{
		main,
		main + "fn f() int" + body + "fn g(x int, y ref int) int { b: return x; }",
		"struct main { main int; } enum f { main; f int; } fn f(f f, g main) f { main: return f; }" + main,
		"fn main() int { let main int; let b int; b: main = 1; b = add main main; call main = main() main; main: goto b; }",
		"struct x { b int; } fn main() int { let x int; let b x; b: x = 2; b = new x x; return b.b; }",
		"fn f(f int) int { f: return f; }" + main,
	} {
		wantDiags(t, text, "")
	}
}

// P9.1: what layer 8 tells is all that is told.
func TestTable(t *testing.T) {
	wrong := " fn f(x zz, x int) zz { b: x = use y; goto c; b: goto b; } fn f() int" + body
	wantDiags(t, "struct a { x a; }"+wrong, "str size")
	wantDiags(t, "struct a { x zz; x int; } enum a { u; }"+wrong, "str name, str twice, enu twice")
	wantDiags(t, "enum e { u; v int; v e; }", "enu twice")
	for i, p := range []api.Prog{
		{Structs: []api.Struct{{At: 5}}},
		{Enums: []api.Enum{{At: 5, Name: "a"}}},
		{Funcs: []api.Func{{At: 5, Name: "main", Result: "int"}}},
		{Funcs: []api.Func{{At: 5, Name: "main", Result: "int", Blocks: []api.Block{{Name: "b", Term: api.Term{Kind: api.TReturn}}}}}},
		{Funcs: []api.Func{{At: 5, Name: "main", Result: "ref int", Blocks: []api.Block{{Name: "b", Term: api.Term{Kind: api.TGoto, Blocks: []string{"b"}}}}}}},
	} {
		if diags := check.Check(p); !slices.Equal(diags, []api.Diag{{At: 0, Code: api.DSyntax}}) {
			t.Error(i, diags)
		}
	}
}

// P9.1: functions' names, and main.
func TestFunctions(t *testing.T) {
	f, at := "fn f() int"+body, api.Diag{At: 0, Code: api.DMain}
	for text, want := range map[string][]api.Diag{
		"":                                 {at},
		"struct main { } enum a { main; }": {at},
		f:                                  {at},
		"fn mains() int" + body:            {at},
		main + main:                        {{At: len(main), Code: api.DTwice}},
		main + f + f + f + main:            {{At: len(main + f), Code: api.DTwice}, {At: len(main + f + f), Code: api.DTwice}, {At: len(main + f + f + f), Code: api.DTwice}},
		f + f:                              {{At: len(f), Code: api.DTwice}, at},
		"fn main(a int) int" + body + main: {{At: len("fn main(a int) int" + body), Code: api.DTwice}, at},
		main + "fn main(a int) int" + body: {{At: len(main), Code: api.DTwice}},
		"fn main() box int { let x box int; b: return x; }":                                     {at},
		"struct int_ { } fn main() int_ { let x int_; b: return x; }":                           {at},
		"fn main(a zz) zz { let x zz; b: return x; }":                                           {at, {Code: api.DName}, {Code: api.DName}, {Code: api.DName}},
		" fn main(a int, b ref int) int" + body:                                                 {at},
		" " + main + "fn f() int { b: return zz; }" + "fn f() int { b: return zz; }":            {{At: 1 + len(main) + 28, Code: api.DTwice}, {At: 1 + len(main) + 16, Code: api.DName}, {At: 1 + len(main) + 44, Code: api.DName}},
		main + "fn f(x int) int { b: return x; } fn f() int { let r int; b: call r = f(r) b; }": {{At: len(main) + 33, Code: api.DTwice}},
		main + "fn f() int { let r int; b: call r = f(r) b; } fn f(x int) int { b: return x; }": {{At: len(main) + 46, Code: api.DTwice}, {At: len(main) + 27, Code: api.DType}},
	} {
		if diags := check.Check(parsed(t, text)); !slices.Equal(diags, want) {
			t.Errorf("%v of %q, want %v", diags, text, want)
		}
	}
}

// P9.1: a function's parameters, locals, result and blocks; its statements are told of only if it has no fault in these.
func TestNames(t *testing.T) {
	for text, want := range map[string]string{
		"fn f(x int, y int, x int)int" + body:                                                                                   "fn  twice, fn  twice",
		"fn f(x int) int { let y int; let y box zz; let x ref zz; let zz mut int; b: return x;}":                                "fn  twice, fn  name, fn  twice, fn  name",
		"fn f() int { let x zz; let y ref box zz; b: y = use z; goto c; }":                                                      "fn  name, fn  name",
		"fn f(x main, y f) int { b: return x; }":                                                                                "fn  name, fn  name",
		"fn f() f { let x f; b: return x; }":                                                                                    "fn  name, fn  name",
		"fn f(x zz) box zz { let x int; a: goto c; b: goto c; a: goto a; b: return z; a: goto b; }":                             "fn  name, fn  twice, fn  name, a:  twice, b:  twice, a:  twice",
		"fn f() int { let a int; a: a = 1; return a; f: a = 1; return a; a: out z; return a;}":                                  "a:  twice",
		"fn f() zz { let x int; b: x = use y; return x; }":                                                                      "fn  name",
		"fn f() int { let x int; b: x = use y; out y; x = 3; x = 3; out x.y; goto c; c: out x.*; return y; a: out x; goto d; }": "x = name, out name, out type, out type, ret name, got name",
	} {
		wantDiags(t, main+text, want)
		wantDiags(t, text+main, want)
		// Each function is asked by itself, in order.
		both := want + ", " + want
		wantDiags(t, text+main+strings.Replace(text, "fn f(", "fn g(", 1), both)
	}
	// A function stands where it stands: two with faults of both kinds.
	wantDiags(t, "fn f() int { a: return x; }"+main+"fn g(x int, x zz) int { a: return y; } fn h() int { h: goto a; }", "ret name, fn  twice, fn  name, got name")
}

// P9.1: a diagnostic stands at the At of what it is told of, whatever number that is.
func TestAt(t *testing.T) {
	p := parsed(t, "fn f() int { let x int; let x int; b: goto b; b: goto b; } fn f() zz { b: goto b; } fn g() int { let x int; b: x = use y; goto c; }")
	p.Funcs[0].At, p.Funcs[0].Blocks[1].At, p.Funcs[1].At = -1<<63, 1<<63-1, -7
	b := &p.Funcs[2].Blocks[0]
	b.Stmts[0].At, b.Term.At = 1<<62, -1
	if diags := check.Check(p); !slices.Equal(diags, []api.Diag{
		{At: -7, Code: api.DTwice}, {At: 0, Code: api.DMain}, {At: -1 << 63, Code: api.DTwice}, {At: 1<<63 - 1, Code: api.DTwice}, {At: -7, Code: api.DName}, {At: 1 << 62, Code: api.DName}, {At: -1, Code: api.DName},
	}) {
		t.Error(diags)
	}
}
