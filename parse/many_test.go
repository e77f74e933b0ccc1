package parse_test

import (
	"strings"
	"testing"

	"drogue/api"
)

func inStruct(fields string) string { return "struct a { " + fields + " }" }

// many: so many of a thing, and behind them one that is marked.
func many(n int, thing, marked string) string { return strings.Repeat(thing, n) + marked }

// wantBound: with so many things ahead of it what is marked is too much, and with one less it isn't.
func wantBound(t *testing.T, most int, text func(n int) string) {
	t.Helper()
	for n := range most {
		good(t, strings.Replace(text(n), "^", "", 1))
	}
	for n := most; n < most+3; n++ {
		at := strings.Index(text(most), "^")
		wantDiag(t, strings.Replace(text(n), "^", "", 1), api.DMany, at)
	}
}

// P6.1: each bound, just kept, and passed by one and more: the first thing that is too much is told.
func TestMany(t *testing.T) {
	for what, c := range map[string]struct {
		most int
		text func(n int) string
	}{
		"structs":    {16, func(n int) string { return many(n, "struct a { } ", "^struct a { }") }},
		"enums":      {16, func(n int) string { return many(n, "enum a { v; } ", "^enum a { v; }") }},
		"functions":  {16, func(n int) string { return many(n, "fn f() int { b: goto b; } ", "^fn f() int { b: goto b; }") }},
		"fields":     {16, func(n int) string { return inStruct(many(n, "b int; ", "^b box int;")) }},
		"variants":   {16, func(n int) string { return "enum a { " + many(n, "v; ", "^w int;") + " }" }},
		"parameters": {16, func(n int) string { return "fn f(" + many(n, "a int, ", "^a int") + ") int { b: goto b; }" }},
		"locals":     {24, func(n int) string { return "fn f() int { " + many(n, "let x int; ", "let ^x int;") + " b: goto b; }" }},
		"blocks":     {64, func(n int) string { return "fn f() int { " + many(n, "b: goto b; ", "^b: goto b;") + " }" }},
		"statements": {64, func(n int) string { return inBody(many(n, "x = 5; ", "^x.a.* = 5;")) }},
		"outs":       {64, func(n int) string { return inBody(many(n, "out x; ", "^out x;")) }},
		"new's":      {16, func(n int) string { return inBody("x = new p " + many(n, "y.a ", "^y.b") + ";") }},
		"call's":     {16, func(n int) string { return withEnd("call x = f(" + many(n, "y.a, ", "^y.b") + ") b;") }},
		"catch's":    {16, func(n int) string { return withEnd("catch x = f(" + many(n, "y.a, ", "^y.b") + ") b;") }},
		"arms":       {16, func(n int) string { return withEnd("match x " + many(n, "v w: b, ", "^v w: b") + ";") }},
	} {
		t.Run(what, func(t *testing.T) { wantBound(t, c.most, c.text) })
	}
}

// P6.1: 8 boxes, wherever a type stands, and one more: its first box is told.
func TestManyBoxes(t *testing.T) {
	for _, spot := range []string{
		"struct a { b % ; }", "struct a { c int; b % ; d int; }", "enum a { v % ; }", "enum a { v; w % ; }", "fn f(a % ) int { b: goto b; }", "fn f(a ref % ) int { b: goto b; }", "fn f(a mut % , b int) int { b: goto b; }",
		"fn f() % { b: goto b; }", "fn f() int { let x % ; b: goto b; }", "fn f() int { let x ref % ; b: goto b; }", "fn f() int { let x mut % ; b: goto b; }",
	} {
		for n := range 12 {
			for _, base := range []string{"int", "a"} {
				text := strings.Replace(spot, "%", strings.Repeat("box ", n)+base, 1)
				if n <= 8 {
					good(t, text)
				} else {
					wantDiag(t, text, api.DMany, strings.Index(spot, "%"))
				}
			}
		}
	}
	wantMarked(t, api.DMany, inStruct("b ^box#\n"+strings.Repeat("box\t", 3000)+" int;"))
}

// P6.1: 8 steps, wherever a place stands, and one more: its local is told.
func TestManySteps(t *testing.T) {
	stmts := []string{"% = 5;", "% = add x x;", "x = add % x;", "x = add x % ;", "x = sub % x;", "x = less x % ;", "% = use x;", "x = use % ;", "x = box % ;", "x = new p % ;", "x = new p x % x;", "x = tag o.v % ;", "% = tag o.v;", "x = ref % ;", "x = mut % ;", "out % ;"}
	ends := []string{"if % b b;", "match % v: b;", "call % = f() b;", "call x = f( % ) b;", "call x = f(x, % , x) b;", "catch % = f() b;", "catch x = f( % ) b;", "return % ;"}
	var spots []string
	for _, s := range stmts {
		spots = append(spots, inBody(s))
	}
	for _, s := range ends {
		spots = append(spots, withEnd(s))
	}
	for _, spot := range spots {
		for n := range 12 {
			for _, step := range []string{".a", ".*", " . a", "\n.\n*"} {
				text := strings.Replace(spot, "%", "z"+strings.Repeat(step, n), 1)
				if n <= 8 {
					good(t, text)
				} else {
					wantDiag(t, text, api.DMany, strings.Index(spot, "%"))
				}
			}
		}
	}
	// The variant of a tag isn't a step of the place behind it.
	good(t, inBody("x = tag o.v y"+strings.Repeat(".a", 8)+";"))
}

// P6.1: parameters count among the 24 locals; the local that is one too many is told by its name.
func TestManyLocals(t *testing.T) {
	for params := range 17 {
		head := "fn f(" + strings.TrimSuffix(strings.Repeat("a int, ", params), ", ") + ") int { "
		for locals := range 27 {
			if text := head + strings.Repeat("let x int; ", locals) + "b: goto b; }"; params+locals <= 24 {
				good(t, text)
			} else {
				wantDiag(t, text, api.DMany, len(head)+(24-params)*len("let x int; ")+len("let "))
			}
		}
	}
	// With more parameters than there may be the first of these is the earliest.
	for _, params := range []int{17, 24, 25, 40} {
		wantDiag(t, "fn f("+strings.Repeat("a int, ", params-1)+"a int) int { let x int; b: goto b; }", api.DMany, len("fn f(")+16*len("a int, "))
	}
}

// P6.1: the bounds are each declaration's, each block's, each list's own, and 16 structs stand beside 16 enums and 16 functions.
func TestManyEach(t *testing.T) {
	fields, stmts := strings.Repeat("b int;", 16), strings.Repeat("x=5;", 64)
	good(t, strings.Repeat("struct a { "+fields+" } enum e { "+fields+" } fn f() int { b: goto b; } ", 16))
	good(t, "fn f() int { "+strings.Repeat("b: "+stmts+" goto b; ", 20)+"}")
	good(t, "fn f() int { "+strings.Repeat("b: goto b; ", 64)+"} fn g() int { "+strings.Repeat("b: goto b; ", 64)+"}")
	good(t, strings.Repeat("fn f("+strings.TrimSuffix(strings.Repeat("a int, ", 16), ", ")+") int { "+strings.Repeat("let x int; ", 8)+" b: goto b; } ", 2))
	good(t, inBody(strings.Repeat("x = new p"+strings.Repeat(" y", 16)+";", 10)))
	wantMarked(t, api.DMany, strings.Repeat("struct a { } enum e { v; } fn f() int { b: goto b; } ", 16)+"^enum e { v; } struct a { }")
	wantMarked(t, api.DMany, strings.Repeat("struct a { } enum e { v; } fn f() int { b: goto b; } ", 16)+"^fn f() int { b: goto b; } enum e { v; }")
}

// P6.1: of several things that are too much the earliest in the text is told; and none, where the grammar is broken, behind it too.
func TestManyFirst(t *testing.T) {
	boxes, steps, structs := strings.Repeat("box ", 9), strings.Repeat(".a", 9), strings.Repeat("struct a { } ", 16)
	for _, marked := range []string{
		structs + "^struct a { b " + boxes + "int; }", structs + "enum e { v ^" + boxes + "int; } struct a { }", "struct a { b ^" + boxes + "int; } " + strings.TrimSpace(structs),
		"enum e { " + strings.Repeat("v; ", 16) + "^w " + boxes + "int; } " + structs + "struct a { }",
		inStruct("b ^" + boxes + "int; " + strings.Repeat("b int; ", 16)),
		inBody(strings.Repeat("x = 5; ", 63) + "^x" + steps + " = 5; x = 5;"), inBody(strings.Repeat("x = 5; ", 64) + "^x" + steps + " = 5;"), inBody(strings.Repeat("x = 5; ", 64) + "^x = use x" + steps + ";"),
		inBody("^x" + steps + " = use x" + steps + ";"), inBody("x = add ^x" + steps + " x" + steps + ";"), inBody("x = new p ^x" + steps + strings.Repeat(" y", 16) + ";"), inBody("x = new p" + strings.Repeat(" y", 16) + " ^x" + steps + ";"),
		withEnd("call ^x" + steps + " = f(" + strings.Repeat("y, ", 16) + "y) b;"), withEnd("call x = f(" + strings.Repeat("y, ", 16) + "^y, y" + steps + ") b;"), withEnd("match ^x" + steps + " " + strings.Repeat("v: b, ", 16) + "v: b;"),
		"fn f(a ^" + boxes + "int, " + strings.Repeat("a int, ", 16) + "a int) " + boxes + "int { b: goto b; }",
		"fn f() ^" + boxes + "int { " + strings.Repeat("let x int; ", 25) + " b: goto b; }", "fn f() int { " + strings.Repeat("let x int; ", 24) + "let ^x " + boxes + "int; b: goto b; }", "fn f() int { " + strings.Repeat("let x int; ", 23) + "let x ^" + boxes + "int; let x int; b: goto b; }",
	} {
		wantMarked(t, api.DMany, marked)
		wrong := strings.Replace(marked, "^", "", 1)
		wantDiag(t, wrong+";", api.DSyntax, len(wrong))
		wantDiag(t, wrong[:len(wrong)-1], api.DSyntax, len(wrong)-1)
		wantDiag(t, "; "+wrong, api.DSyntax, 0)
		wantDiag(t, wrong+"$", api.DToken, len(wrong))
	}
}
