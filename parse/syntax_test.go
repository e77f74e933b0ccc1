package parse_test

import (
	"strings"
	"testing"

	"drogue/api"
	"drogue/lex"
)

// P6.1: the first token that can't stand there in a struct, an enum and between declarations.
func TestSyntaxTypes(t *testing.T) {
	for _, marked := range []string{
		"^x", "^;", "^5", "^}", "^safe", "^let x int;", "struct a { }^;", "struct a { } ^}", "struct a { } ^x", "fn f() int { b: goto b; } ^}",
		"struct ^{ }", "struct ^struct a { }", "struct ^5 { }", "struct ^int { }", "struct a ^b { }", "struct a ^; }", "struct a ^( )",
		"struct a safe ^safe { }", "struct a hook ^safe { }", "struct a hook ^hook { }", "struct a safe hook ^safe { }", "struct a safe hook ^x { }",
		"struct a { ^; }", "struct a { ^{ }", "struct a { ^int; }", "struct a { ^box int; }", "struct a { ^5; }", "struct a { ^) }", "struct a { ^struct b { } }", "struct a { ^, b int; }",
		"struct a { b ^; }", "struct a { b int ^}", "struct a { b int; ^; }", "struct a { b int^, c int; }", "struct a { b^: int; }", "struct a { b ^5; }", "struct a { b int ^int; }", "struct a { b c ^d; }", "struct a { b box box ^; }",
		"struct a { b ^ref int; }", "struct a { b ^mut int; }", "struct a { b box ^ref int; }", "struct a { b box ^mut int; }", "struct a { b int^.c; }", "struct a { b int ^= 5; }",
		"enum ^{ v; }", "enum a ^safe { v; }", "enum a ^hook { v; }", "enum a ^; }", "enum a { ^}", "enum a { ^; }", "enum a { ^5; }", "enum a { ^int; }", "enum a { v ^}", "enum a { v^, w; }", "enum a { v ^5; }",
		"enum a { v ^ref int; }", "enum a { v ^mut int; }", "enum a { v box ^ref int; }", "enum a { v int ^w; }", "enum a { v box ^; }", "enum a { v; w int; ^; }", "enum a { v ^( int ); }", "enum a { v; }^;",
	} {
		wantMarked(t, api.DSyntax, marked)
	}
}

// P6.1: the first token that can't stand there in a function's head, its locals and its blocks' names.
func TestSyntaxFunctions(t *testing.T) {
	for _, marked := range []string{
		"fn ^( ) int { b: goto b; }", "fn ^fn f() int { b: goto b; }", "fn f ^int { b: goto b; }", "fn f ^{ b: goto b; }", "fn f(^,) int { b: goto b; }", "fn f(^5) int { b: goto b; }", "fn f(^int) int { b: goto b; }", "fn f(^ref a) int { b: goto b; }", "fn f(^( a int)) int { b: goto b; }",
		"fn f(a^) int { b: goto b; }", "fn f(a^,) int { b: goto b; }", "fn f(a^: int) int { b: goto b; }", "fn f(a int^; b int) int { b: goto b; }", "fn f(a int ^b int) int { b: goto b; }", "fn f(a int,^) int { b: goto b; }", "fn f(a int,^, b int) int { b: goto b; }", "fn f(a ^5) int { b: goto b; }", "fn f(a int ^{ b: goto b; }",
		"fn f(a ref ^ref int) int { b: goto b; }", "fn f(a ref ^mut int) int { b: goto b; }", "fn f(a mut ^ref int) int { b: goto b; }", "fn f(a box ^ref int) int { b: goto b; }", "fn f(a ref box ^mut int) int { b: goto b; }", "fn f(a ref^) int { b: goto b; }", "fn f(a mut box^, b int) int { b: goto b; }",
		"fn f() ^{ b: goto b; }", "fn f() ^ref int { b: goto b; }", "fn f() ^mut int { b: goto b; }", "fn f() box ^ref int { b: goto b; }", "fn f() int ^int { b: goto b; }", "fn f() int^; { b: goto b; }", "fn f() int ^b: goto b; }", "fn f() int^: { b: goto b; }", "fn f()^) int { b: goto b; }", "fn f() ^hook { b: goto b; }",
		"fn f() int { ^}", "fn f() int { ^; }", "fn f() int { ^goto b; }", "fn f() int { ^out x; goto b; }", "fn f() int { x ^= 5; goto b; }", "fn f() int { b ^goto b; }", "fn f() int { b^; goto b; }", "fn f() int { ^: goto b; }", "fn f() int { ^int: goto b; }", "fn f() int { ^5: goto b; }", "fn f() int { b: ^: goto b; }",
		"fn f() int { let ^int; b: goto b; }", "fn f() int { let x^; b: goto b; }", "fn f() int { let x^: int; b: goto b; }", "fn f() int { let x int ^let y int; b: goto b; }", "fn f() int { let x int^, y int; b: goto b; }", "fn f() int { let x ref ^mut int; b: goto b; }", "fn f() int { let x int; ^}", "fn f() int { let x int; ^; b: goto b; }", "fn f() int { let x int ^= 5; b: goto b; }",
		"fn f() int { b: ^let x int; goto b; }", "fn f() int { b: goto b; ^let x int; c: goto b; }", "fn f() int { b: goto b; ^goto b; }", "fn f() int { b: goto b; ^out x; }", "fn f() int { b: goto b; ^; }", "fn f() int { b: goto b; x ^= 5; }", "fn f() int { b: goto b; x^.a = 5; }", "fn f() int { b: ^} }", "fn f() int { b: x = 5; ^} }", "fn f() int { b: goto b; ^fn g() int { b: goto b; } }",
	} {
		wantMarked(t, api.DSyntax, marked)
	}
}

// P6.1: the first token that can't stand there in a statement.
func TestSyntaxStatements(t *testing.T) {
	for _, marked := range []string{
		"^;", "^5 = x;", "^* = 5;", "^. = 5;", "^= 5;", "^add x x;", "^use x;", "^new p;", "^int = 5;", "^( );", "^{ }", "^let = 5;",
		"x^;", "x ^5;", "x ^y = 5;", "x^, y = 5;", "x^* = 5;", "x.^= 5;", "x.^5 = 5;", "x.^.a = 5;", "x.^int = 5;", "x.^use = 5;", "x.*^* = 5;", "x.a ^b = 5;", "x.*.^;", "x^(y) = 5;",
		"x =^;", "x = ^y;", "x = ^y.a;", "x = ^= 5;", "x = ^out y;", "x = ^goto b;", "x = ^call f() b;", "x = ^int;", "x = ^(5);", "x = ^*;", "x = ^fn;", "x = ^let;", "x = ^safe;", "x = 5 ^5;", "x = 5^-5;", "x = 5 ^y;", "x = 5^, y = 5;", "x = 5^.a;", "x = 5 ^add y;",
		"x = add^;", "x = add x^;", "x = add x^, y;", "x = add x y ^z;", "x = add ^5 y;", "x = add x ^5;", "x = add x ^-5;", "x = add x ^add x y;", "x = sub^;", "x = sub x^;", "x = sub x y ^z;", "x = sub ^5 y;", "x = less^;", "x = less y^;", "x = less y z ^x;", "x = less y ^5;",
		"x = use^;", "x = use ^5;", "x = use y ^z;", "x = use y ^= z;", "x = use ^use y;", "x = use y.^;", "x = box^;", "x = box ^5;", "x = box ^box y;", "x = box ^int;", "x = box y ^z;", "x = ref^;", "x = ref ^5;", "x = ref ^mut y;", "x = ref y ^z;", "x = mut^;", "x = mut y ^z;", "x = mut ^5;",
		"x = new^;", "x = new ^5;", "x = new ^int;", "x = new p^.a;", "x = new p^.a y;", "x = new p^(y);", "x = new p y^, z;", "x = new p ^5;", "x = new p y ^5;", "x = new p y.^;", "x = new p y z ^= 5;", "x = new ^box p;", "x = new p^* y;",
		"x = tag^;", "x = tag o^;", "x = tag o ^v;", "x = tag o.^;", "x = tag o.^* y;", "x = tag o.^5;", "x = tag o.v^.a;", "x = tag o.v^.a y;", "x = tag o.v y ^z;", "x = tag o.v ^5;", "x = tag o.v y^, z;", "x = tag o.v^(y);", "x = tag o.v y.a ^z;", "x = tag ^int.v;", "x = tag o^: v;", "x = tag o^* v;",
		"out^;", "out ^5;", "out x ^y;", "out x^, y;", "out x ^= 5;", "out ^out x;", "out x.^;", "out ^add x y;", "out^: x;",
	} {
		wantMarked(t, api.DSyntax, inBody(marked))
	}
}

// P6.1: the first token that can't stand there in an end.
func TestSyntaxEnds(t *testing.T) {
	for _, marked := range []string{
		"^}", "^;", "x^: goto b;", "^5;", "^fn g() int { }", "^struct s { }", "^safe;", "else^;", "else ^: goto b;",
		"goto^;", "goto ^5;", "goto b^.a;", "goto b ^c;", "goto b^, c;", "goto ^goto b;", "goto ^}", "goto b ^}", "goto b^: c;", "goto ^int;",
		"if^;", "if ^5 b c;", "if x^;", "if x b^;", "if x b^, c;", "if x b c ^d;", "if x b^.a c;", "if x ^5 c;", "if x b ^*;", "if x^: b c;", "if x.^5 b c;", "if ^less x y b c;", "if x ^= y b c;",
		"match^;", "match ^5 v: b;", "match x^;", "match x v^;", "match x v b^;", "match x v b^, w: c;", "match x v: ^;", "match x v: b^.a;", "match x v: b ^w: c;", "match x v: b,^;", "match x v: b,^, w: c;", "match x^, v: b;", "match x^: b;", "match x v w ^u: b;", "match x v w^.a: b;", "match x v^.w: b;", "match x ^5: b;", "match x v ^5: b;", "match x v: ^5;", "match x v: b; w: c^;", "match x v ^int: b;", "match x ^{ v: b; }", "match x v: b ^w;", "match x v: b^: c;",
		"check^;", "check ^5;", "check b ^c;", "check b^.a;", "check b^, c;", "check x^.a b;",
		"call^;", "call f^() b;", "call x^;", "call x ^f() b;", "call x =^;", "call x = ^5() b;", "call x = f^;", "call x = f ^b;", "call x = f(^;", "call x = f(^5) b;", "call x = f(^, x) b;", "call x = f(^( x )) b;", "call x = f(x^;", "call x = f(x ^y) b;", "call x = f(x,^) b;", "call x = f(x,^, y) b;", "call x = f(x^= y) b;", "call x = f(x.^) b;", "call x = f(x, ^5) b;", "call x = f(x)^;", "call x = f()^;", "call x = f() ^5;", "call x = f() b ^c;", "call x = f() b^.a;", "call x = f()^.a b;", "call x = f()^, b;", "call x = f^.a() b;", "call x = main^.a() b;", "call x = f(x)^) b;", "call x = ^call f() b;", "call x = ^use y;", "call x.^= f() b;", "call x.a.* ^f() b;",
		"catch^;", "catch f^() b;", "catch x^;", "catch x ^f() b;", "catch x =^;", "catch x = f^;", "catch x = f(^;", "catch x = f(x ^y) b;", "catch x = f(x,^) b;", "catch x = f(x)^;", "catch x = f() ^5;", "catch x = f() b ^c;", "catch x = f() b^, c;",
		"return^;", "return ^5;", "return x ^y;", "return x^, y;", "return x ^= y;", "return x.^;", "return ^return x;", "return ^use x;", "return ^box x;", "return ^}", "return x ^}",
	} {
		wantMarked(t, api.DSyntax, withEnd(marked))
	}
}

// P6.1: a text that ends too early is wrong at its length, whatever blanks and remarks stand at its end.
func TestTooEarly(t *testing.T) {
	list, _ := lex.Lex(full)
	deep := 0
	for _, token := range list {
		cut := full[:token.At]
		for _, tail := range []string{"", " \n", "# x", " #\n\t"} {
			if deep == 0 && strings.Contains(" struct enum fn ", " "+token.Text+" ") {
				good(t, cut+tail)
			} else {
				wantDiag(t, cut+tail, api.DSyntax, len(cut+tail))
			}
		}
		switch token.Text {
		case "{":
			deep++
		case "}":
			deep--
		}
	}
	wantDiag(t, "struct a {"+strings.Repeat(" ", api.MaxText-10), api.DSyntax, api.MaxText)
}

// P6.1: of several tokens that can't stand there the first one is told, and alone.
func TestSyntaxFirst(t *testing.T) {
	wantMarked(t, api.DSyntax, "struct a { b ^ref int; c 5; } ; fn f( { }")
	wantMarked(t, api.DSyntax, "^; struct { }")
	wantMarked(t, api.DSyntax, "struct a { } ^) ) ) struct")
	wantMarked(t, api.DSyntax, "fn f() int { b: x = 5 ^5; out; goto; } }")
	wantMarked(t, api.DSyntax, "struct a ^enum b { } fn")
}
