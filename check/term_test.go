package check_test

import (
	"strings"
	"testing"

	"drogue/api"
	"drogue/check"
	"drogue/parse"
)

// funcs are those that the tests' ends call.
const funcs = " fn f(v box int, w ref int) int { b: return w.*; } fn g() box int { let x int; let b box int; b: x = 1; b = box x; return b; } fn k(x int) int { b: return x; } fn q(m mut int) int { b: return m.*; } fn st(f flat) flat { b: return f; } fn en(e bare, o opt, h hk) opt { b: return o; } fn nul() int { let x int; b: x = 0; return x; } fn dp(d deep) deep { b: return d; }"

// wantEnds: of each end what is told; the function's result is an int.
func wantEnds(t *testing.T, locals string, cases map[string]string) {
	t.Helper()
	wantResult(t, "int", locals, cases)
}

// wantResult: of each end what is told, in a function with that result.
func wantResult(t *testing.T, result, locals string, cases map[string]string) {
	t.Helper()
	head := decls + funcs + " " + main + " fn here(a int, y deep) " + result + " { " + locals + " b0: goto b1; b1: "
	for line, want := range cases {
		text := head + line + "}"
		p, diags := parse.Parse(text)
		if len(diags) > 0 {
			t.Fatal(line, diags)
		}
		diags = check.Check(p)
		var list []string
		for _, d := range diags {
			if d.At != len(head) {
				t.Error(line, d)
			}
			list = append(list, word(d.Code))
		}
		if got := strings.Join(list, ", "); got != want {
			t.Errorf("%q of %q, want %q", got, line, want)
		}
	}
}

// ends are the locals of the tests' ends.
const ends = "let x int; let b box int; let bb box box int; let fl flat; let p pair; let h hk; let i in; let o opt; let e bare; let be box bare; let d deep; let bd box deep; let r ref int; let m mut int; let rp ref pair; let mp mut pair; let ro ref opt; let fb box flat;"

// P9.1: goto, check and if: where they lead to must be there, and what is asked be an int.
func TestWays(t *testing.T) {
	wantEnds(t, ends, map[string]string{
		"goto b0;": "", "goto b1;": "", "goto zz;": "name", "goto x;": "name", "goto here;": "name", "check b0;": "", "check b1;": "", "check zz;": "name", "check main;": "name",
		"if x b0 b1;": "", "if x b1 b1;": "", "if a b0 b1;": "", "if r.* b0 b1;": "", "if h.n b0 b1;": "", "if mp.*.a b0 b1;": "", "if bb.*.* b0 b0;": "",
		"if b b0 b1;": "type", "if r b0 b1;": "type", "if e b0 b1;": "type", "if bb.* b0 b1;": "type", "if fl b0 b1;": "type",
		"if x zz b1;": "name", "if x b0 zz;": "name", "if x zz zz;": "name", "if zz b0 b1;": "name", "if x.* b0 b1;": "type", "if p.zz b0 b1;": "name", "if x.* zz zz;": "type", "if b zz zz;": "type", "if zz zz zz;": "name",
	})
}

// P9.1: a match is of a bare enum, its arms are just its variants, in order, and take payloads into locals of their types.
func TestMatch(t *testing.T) {
	wantEnds(t, ends, map[string]string{
		"match o none: b0, some b: b0;": "", "match o none: b0, some b: b1;": "", "match e u: b0, v x: b1, w fl: b0;": "", "match e u: b0, v a: b1, w fl: b0;": "", "match d u h: b0, v bd: b0;": "", "match y u h: b0, v bd: b1;": "",
		"match i.o none: b0, some b: b0;": "place", "match i.q u: b0;": "place", "match be.* u: b0, v x: b1, w fl: b0;": "place", "match ro.* none: b0, some b: b0;": "place", "match x none: b0;": "type", "match p.a none: b0;": "place", "match p.b none: zz;": "place", "match mp.* none: b0;": "place",
		"match p a x: b0, b b: b0;": "type", "match r none: b0;": "type", "match ro none: b0, some b: b0;": "type", "match be u: b0, v x: b1, w fl: b0;": "type", "match h n x: b0;": "type",
		"match o none: b0;": "type", "match o some b: b0;": "type", "match o some b: b0, none: b0;": "type", "match o none: b0, none: b0;": "type", "match o none: b0, some b: b0, none: b0;": "type", "match o none: b0, some b: b0, zz: b0;": "type", "match o zz: b0, some b: b0;": "type", "match o none: b0, zz b: b0;": "type", "match e u: b0, w fl: b0, v x: b0;": "type", "match o u: b0, v x: b1, w fl: b0;": "type",
		"match o none: b0, some: b0;": "type", "match o none b: b0, some b: b0;": "type", "match e u: b0, v: b1, w fl: b0;": "type", "match e u: b0, v x: b1, w: b0;": "type", "match e u x: b0, v x: b1, w fl: b0;": "type", "match e u zz: b0, v x: b1, w fl: b0;": "type",
		"match o none: b0, some zz: b0;": "name", "match e u: b0, v zz: b1, w fl: b0;": "name", "match e u: b0, v x: b1, w zz: b0;": "name", "match o none: b0, some here: b0;": "name",
		"match o none: b0, some x: b0;": "type", "match o none: b0, some bb: b0;": "type", "match o none: b0, some o: b0;": "type", "match e u: b0, v r: b1, w fl: b0;": "type", "match e u: b0, v x: b1, w x: b0;": "type", "match e u: b0, v x: b1, w fb: b0;": "type", "match e u: b0, v b: b1, w fl: b0;": "type",
		"match e u: b0, v zz: b1, w x: b0;": "name", "match e u: b0, v b: b1, w zz: b0;": "type", "match e u b: b0, v zz: b1, w zz: b0;": "type", "match e u: b0, v zz: b1, w: b0;": "name", "match e u: b0, v: b1, w zz: b0;": "type",
		"match o none: zz, some b: b0;": "name", "match o none: b0, some b: zz;": "name", "match o none: zz, some b: zz;": "name", "match e u: b0, v x: zz, w fl: b0;": "name", "match o none: zz, some x: b0;": "type", "match o none: zz;": "type", "match i.o none: zz;": "place", "match zz none: b0;": "name", "match x.a none: b0;": "type", "match p.zz none: zz;": "name", "match zz.a none: b0;": "name",
	})
}

// P9.1: calls: the function, its parameters, what is moved, where the result goes.
func TestCall(t *testing.T) {
	cases := map[string]string{
		"x = f(b, r)": "", "x = f(bb.*, r)": "", "x = f(p.b, r)": "", "x = k(x)": "", "x = k(h.n)": "", "x = k(r.*)": "", "x = nul()": "", "a = nul()": "", "x = q(m)": "", "a = k(a)": "", "x = here(x, d)": "", "x = main()": "", "x = here(x, bd.*)": "",
		"x = zz()": "name", "x = zz(b, r)": "name", "x = x()": "name", "x = b0()": "name", "x = pair(x, b)": "name", "h.d = zz(h.d)": "name", "b = zz()": "name",
		"x = f()": "type", "x = f(b)": "type", "x = f(r, b)": "type", "x = f(b, r, r)": "type", "x = f(b, x)": "type", "x = f(x, r)": "type", "x = f(bb, r)": "type", "x = nul(x)": "type", "x = k(r)": "type", "x = q(r)": "type", "x = q(x)": "type", "x = f(b, m)": "type", "x = f(h.d, x)": "type", "p.a = f(b)": "type", "x = here(d, x)": "type",
		"x = f(h.d, r)": "place", "x = f(mp.*.b, r)": "place", "x = f(rp.*.b, r)": "place", "p.a = f(b, r)": "place", "b.* = f(b, r)": "place", "r.* = nul()": "place", "p.a = nul()": "place", "fl.x = k(x)": "place", "p.b = nul()": "place", "b = f(h.d, r)": "place",
		"b = f(b, r)": "type", "r = nul()": "type", "fl = nul()": "type", "bb = nul()": "type",
		"zz = f(b, r)": "name", "x.a = nul()": "type", "zz.a = nul()": "name", "x = f(zz, r)": "name", "x = f(x.*, zz)": "type", "zz = f(x.*, r)": "type", "x.* = f(zz, r)": "name", "x.* = zz()": "type", "zz = zz()": "name", "p.zz = nul()": "name",
	}
	both := map[string]string{}
	for line, want := range cases {
		for _, kind := range []string{"call ", "catch "} {
			both[kind+line+" b0;"] = want
			// Where it leads to is asked behind all else.
			behind := want
			if want == "" {
				behind = "name"
			}
			both[kind+line+" zz;"] = behind
		}
	}
	wantEnds(t, ends, both)
}

// P9.1: a call's result is of any type, a catch's is an int, and so is its To.
func TestCatch(t *testing.T) {
	wantEnds(t, ends, map[string]string{
		"call b = g() b0;": "", "call fl = st(fl) b0;": "", "call o = en(e, o, h) b0;": "", "call d = dp(d) b0;": "", "call fl = st(fb.*) b0;": "",
		"catch b = g() b0;": "type", "catch x = g() b0;": "type", "catch fl = st(fl) b0;": "type", "catch x = st(fl) b0;": "type", "catch o = en(e, o, h) b0;": "type", "catch d = dp(d) b0;": "type", "catch r = nul() b0;": "type",
		"call x = g() b0;": "type", "call fl = g() b0;": "type", "call x = st(fl) b0;": "type", "call e = en(e, o, h) b0;": "type", "call bb = g() b0;": "type",
		"call p.b = g() b0;": "place", "catch p.b = g() b0;": "place", "catch p.a = g() b0;": "place", "call fl = st(h.f) b0;": "place", "catch x = st(h.f) b0;": "place", "call o = en(i.q, i.o, i.h) b0;": "", "call o = en(i.q, ro.*, i.h) b0;": "place", "call fb.* = st(fl) b0;": "place",
	})
}

// P9.1: what is returned is of the result's type, and movable.
func TestReturn(t *testing.T) {
	wantEnds(t, ends, map[string]string{
		"return x;": "", "return a;": "", "return r.*;": "", "return m.*;": "", "return h.n;": "", "return rp.*.b.*;": "", "return mp.*.a;": "",
		"return b;": "type", "return r;": "type", "return m;": "type", "return o;": "type", "return h.d;": "type", "return rp.*.b;": "type", "return zz;": "name", "return zz.a;": "name", "return x.a;": "type", "return x.*;": "type", "return p.zz;": "name",
	})
	wantResult(t, "box int", ends, map[string]string{
		"return b;": "", "return bb.*;": "", "return p.b;": "", "return h.d;": "place", "return h.i.b;": "place", "return rp.*.b;": "place", "return mp.*.b;": "place", "return x;": "type", "return bb;": "type", "return r;": "type", "return i.e.*.d;": "place",
	})
	wantResult(t, "flat", ends, map[string]string{
		"return fl;": "", "return fb.*;": "", "return i.c.f;": "", "return h.f;": "place", "return i.h.f;": "place", "return i.e.*.f;": "place", "return p;": "type", "return h.n;": "type", "return fb;": "type",
	})
	wantResult(t, "opt", ends, map[string]string{"return o;": "", "return i.o;": "", "return ro.*;": "place", "return ro;": "type", "return e;": "type"})
}

// P9.1: an end is told of once, whatever many faults it has, behind the statements of its block and ahead of the next block.
func TestOnce(t *testing.T) {
	wantDiags(t, decls+funcs+" "+main+" fn here() int { let x int; b0: out zz; call x.a = zz(zz, zz) zz; b1: zz = add zz zz; if zz zz zz; b2: goto b0; b3: match zz zz: zz, zz zz: zz; b4: return zz; }",
		"out name, cal name, zz  name, if  name, mat name, ret name")
	p := parsed(t, main)
	p.Funcs[0].Blocks[0].Stmts = nil
	p.Funcs[0].Blocks[0].Term = api.Term{At: 9, Kind: api.TIf, Args: []api.Place{{Local: "x"}}, Blocks: []string{"zz", "yy"}}
	if diags := check.Check(p); len(diags) != 1 || diags[0] != (api.Diag{At: 9, Code: api.DName}) {
		t.Error(diags)
	}
}
