package check_test

import (
	"strings"
	"testing"

	"drogue/api"
	"drogue/check"
	"drogue/parse"
)

// decls are the types of the tests' functions: flat, cell and bare need no drop.
const decls = "struct pair { a int; b box int; } struct hk hook { n int; d box int; f flat; i pair; } struct flat { x int; y int; } struct none { }" +
	" struct in { h hk; o opt; q bare; c cell; e box hk; } struct cell { f flat; g bare; }" +
	" enum opt { none; some box int; } enum bare { u; v int; w flat; } enum deep { u hk; v box deep; }"

// lets are the locals of the tests' functions: of each type one or two.
const lets = "let x int; let y int; let b box int; let c box int; let bb box box int; let f flat; let g flat; let bf box flat; let p pair; let bp box pair; let h hk; let n none; let i in; let j cell; let o opt; let e bare; let be box bare; let d deep; let bd box deep;" +
	" let r ref int; let s ref int;"

// refs are those of the tests in which there are more references: of all of both there would be too many for one function.
const refs = "let x int; let b box int; let f flat; let p pair; let h hk; let n none; let i in; let o opt; let e bare; let bp box pair; let bb box box int;" +
	" let r ref int; let m mut int; let n2 mut int; let rp ref pair; let mp mut pair; let mh mut hk; let rb ref box int; let mb mut box int; let rbb ref box box int; let mi mut in; let ri ref in; let mo mut opt;"

// wantStmts: of each statement what is told.
func wantStmts(t *testing.T, locals string, cases map[string]string) {
	t.Helper()
	head := decls + " fn main() int { " + locals + " b0: x = 1; "
	for line, want := range cases {
		for _, behind := range []string{" return x; }", " goto b1; b1: " + line + " return x; }"} {
			text := head + line + behind
			p, diags := parse.Parse(text)
			if len(diags) > 0 {
				t.Fatal(line, diags)
			}
			diags = check.Check(p)
			all := want
			if want != "" && strings.Contains(behind, line) {
				all += ", " + want
			}
			var list []string
			for _, d := range diags {
				if !strings.HasPrefix(text[d.At:], line) {
					t.Error(line, d)
				}
				list = append(list, word(d.Code))
			}
			if got := strings.Join(list, ", "); got != all {
				t.Errorf("%q of %q, want %q", got, line, all)
			}
		}
	}
}

// P9.1: numbers: what is stored, read and shown is int.
func TestNumbers(t *testing.T) {
	wantStmts(t, lets, map[string]string{
		"x = 5;": "", "x = -1099511627776;": "", "b = 5;": "type", "r = 5;": "type", "f = 5;": "type", "e = 5;": "type", "f.x = 5;": "", "b.* = 5;": "", "bb.*.* = 5;": "", "bb.* = 5;": "type", "p.b = 5;": "type", "p.b.* = 5;": "", "i.c.f.y = 5;": "", "h.n = 5;": "", "h.f.x = 5;": "",
		"x = add x y;": "", "x = sub r.* f.x;": "", "x = less b.* h.n;": "", "x = add x x;": "", "f.x = less f.x f.x;": "",
		"x = add b y;": "type", "x = add x b;": "type", "b = add x y;": "type", "x = sub r y;": "type", "x = sub x r;": "type", "r = sub x y;": "type", "x = less f y;": "type", "x = less x e;": "type", "p = less x y;": "type", "b.* = add x y;": "",
		"out x;": "", "out r.*;": "", "out h.n;": "", "out bb.*.*;": "", "out b;": "type", "out r;": "type", "out f;": "type", "out o;": "type", "out bb.*;": "type",
	})
	wantStmts(t, refs, map[string]string{
		"m = 5;": "type", "m.* = 5;": "", "r.* = 5;": "place", "mp.*.a = 5;": "", "rp.*.a = 5;": "place", "mb.*.* = 5;": "", "rb.*.* = 5;": "place", "rbb.*.*.* = 5;": "place", "mh.*.n = 5;": "", "mi.*.c.f.x = add m.* r.*;": "", "ri.*.c.f.x = add m.* r.*;": "place", "ri.*.h.n = less x x;": "place", "r.* = sub x x;": "place",
		"out m;": "type", "out m.*;": "", "out rp.*.b.*;": "", "out rp.*.b;": "type", "out ri.*.h.i.a;": "",
	})
}

// P9.1: a use, of what is copied, and of what is moved.
func TestUse(t *testing.T) {
	wantStmts(t, lets, map[string]string{
		"x = use y;": "", "x = use x;": "", "b = use c;": "", "r = use s;": "", "f = use g;": "", "n = use n;": "", "o = use o;": "", "h = use h;": "", "d = use bd.*;": "", "h = use i.h;": "", "h = use i.e.*;": "", "p = use bp.*;": "",
		"b = use x;": "type", "x = use b;": "type", "b = use bb;": "type", "bb = use b;": "type", "x = use r;": "type", "r = use x;": "type", "f = use p;": "type", "e = use o;": "type", "x = use f;": "type", "f.x = use b;": "type",
		"b = use bb.*;": "", "b = use p.b;": "", "b = use bp.*.b;": "", "b = use h.d;": "place", "b = use h.i.b;": "place", "p = use h.i;": "place", "b = use i.h.d;": "place", "b = use i.e.*.d;": "place", "b = use i.e.*.i.b;": "place", "f = use h.f;": "place", "f = use j.f;": "", "x = use h.n;": "", "x = use h.f.x;": "", "x = use i.e.*.f.y;": "", "o = use i.o;": "", "e = use i.q;": "",
		"f.x = use y;": "", "j.f = use f;": "", "j.g = use e;": "", "i.c = use j;": "", "i.q = use e;": "", "bf.* = use f;": "", "be.* = use e;": "", "i.c.f = use bf.*;": "", "h.f = use f;": "", "i.e.*.f = use g;": "",
		"p.b = use b;": "place", "bb.* = use b;": "place", "bp.* = use p;": "place", "i.h = use h;": "place", "i.o = use o;": "place", "bd.* = use d;": "place", "h.d = use b;": "place", "i.e = use i.e;": "place", "h.i = use p;": "place",
	})
	wantStmts(t, refs, map[string]string{
		"r = use r;": "", "m = use n2;": "", "m = use m;": "", "rp = use rp;": "", "m = use r;": "type", "r = use m;": "type", "rp = use mp;": "type", "mi = use ri;": "type",
		"x = use r.*;": "", "x = use m.*;": "", "b = use rb.*;": "place", "b = use mb.*;": "place", "p = use rp.*;": "place", "p = use mp.*;": "place", "b = use mp.*.b;": "place", "x = use mp.*.b.*;": "", "b = use rbb.*.*;": "place", "f = use mi.*.c.f;": "place", "e = use mi.*.q;": "place", "o = use mo.*;": "place", "h = use mi.*.e.*;": "place",
		"m.* = use x;": "", "mi.*.c.f = use f;": "", "mi.*.q = use e;": "", "ri.*.c.f = use f;": "place", "ri.*.q = use e;": "place", "mb.* = use b;": "place", "mp.* = use p;": "place", "mo.* = use o;": "place", "mh.*.f = use f;": "", "mh.*.d = use b;": "place", "rb.* = use b;": "place", "m.* = use b;": "type", "r.* = use b;": "type", "rp.*.b = use mp.*.b;": "place",
	})
}

// P9.1: boxes: of 8 there is no box, and of references.
func TestBox(t *testing.T) {
	wantStmts(t, lets, map[string]string{
		"b = box x;": "", "bb = box b;": "", "bp = box p;": "", "bd = box d;": "", "be = box e;": "", "b = box f.x;": "", "b = box h.n;": "", "bb = box p.b;": "", "bb = box bb.*;": "", "bf = box j.f;": "", "b = box r.*;": "",
		"x = box x;": "type", "b = box b;": "type", "bb = box x;": "type", "x = box b;": "type", "bp = box f;": "type", "b = box r;": "type", "r = box x;": "type", "bb = box r;": "type",
		"bb = box h.d;": "place", "b = box h.d;": "type", "bf = box h.f;": "place", "bp = box h.i;": "place", "i.e = box h;": "place", "p.b = box x;": "place", "bb.* = box x;": "place", "h.d = box x;": "place",
	})
	wantStmts(t, refs, map[string]string{
		"b = box r.*;": "", "b = box m.*;": "", "b = box r;": "type", "b = box m;": "type", "m = box x;": "type", "bb = box rb.*;": "place", "bb = box mb.*;": "place", "mp.*.b = box x;": "place", "mb.* = box x;": "place", "bp = box mp.*;": "place", "rb = box x;": "type",
	})
	eight := "let x int; let t box box box box box box box box int; let s box box box box box box box int;"
	wantStmts(t, eight, map[string]string{
		"t = box s;": "", "t = box t;": "type", "s = box t;": "type", "t = box x;": "type", "s = box s;": "type", "t.* = box s.*;": "place", "t.*.*.*.*.*.*.*.* = add s.*.*.*.*.*.*.* t.*.*.*.*.*.*.*.*;": "", "out t.*.*.*.*.*.*.*;": "type", "out s.*.*.*.*.*.*.*.*;": "type",
	})
}

// P9.1: structs are made of all their fields, in order.
func TestNew(t *testing.T) {
	wantStmts(t, lets, map[string]string{
		"p = new pair x b;": "", "f = new flat x x;": "", "n = new none;": "", "p = new pair r.* bb.*;": "", "h = new hk x b f p;": "", "j = new cell f e;": "", "i = new in h o e j i.e;": "", "p = new pair h.n p.b;": "",
		"p = new zz x b;": "name", "x = new zz zz;": "name", "p = new opt x b;": "name", "e = new bare x;": "name", "x = new main;": "name", "x = new b0;": "name",
		"p = new pair;": "type", "p = new pair x;": "type", "p = new pair b;": "type", "p = new pair b x;": "type", "p = new pair x b x;": "type", "p = new pair x x;": "type", "p = new pair x bb;": "type", "n = new none x;": "type", "f = new flat x r;": "type", "p = new pair x b x x x x x x x x x x x x x x;": "type",
		"x = new pair x b;": "type", "bp = new pair x b;": "type", "f = new pair x b;": "type", "n = new flat x x;": "type", "x = new none;": "type", "e = new flat x x;": "type",
		"p = new pair x h.d;": "place", "p = new pair h.n h.d;": "place", "j = new cell h.f e;": "place", "h = new hk x b f h.i;": "place", "h = new hk x h.d f p;": "place", "p = new flat x h.d;": "type",
		"bf.* = new flat x x;": "", "j.f = new flat x x;": "", "i.c = new cell f e;": "", "h.f = new flat x x;": "", "bp.* = new pair x b;": "place", "i.h = new hk x b f p;": "place", "h.i = new pair x b;": "place",
	})
	wantStmts(t, refs, map[string]string{
		"p = new pair r.* b;": "", "p = new pair m.* b;": "", "p = new pair x rb.*;": "place", "p = new pair x mb.*;": "place", "p = new pair x rb;": "type", "rp = new pair x b;": "type", "mp.* = new pair x b;": "place", "mi.*.c.f = new flat x x;": "", "ri.*.c.f = new flat x x;": "place", "n = new none m;": "type",
	})
	many := strings.Repeat("x ", 15)
	wide := "struct wide { " + fields(16) + " } fn main() int { let x int; let w wide; b: "
	for text, want := range map[string]string{"w = new wide " + many + "x;": "", "w = new wide " + many + ";": "w = type", "w = new wide " + many + "w;": "w = type"} {
		wantDiags(t, wide+text+" return x; }", want)
	}
}

// fields: so many of them.
func fields(n int) string {
	text := ""
	for i := range n {
		text += string(rune('a'+i)) + " int; "
	}
	return text
}

// P9.1: enums are made of a variant, and of its payload, if it has one.
func TestTag(t *testing.T) {
	wantStmts(t, lets, map[string]string{
		"o = tag opt.none;": "", "o = tag opt.some b;": "", "e = tag bare.u;": "", "e = tag bare.v x;": "", "e = tag bare.w f;": "", "d = tag deep.v bd;": "", "d = tag deep.u h;": "", "e = tag bare.v h.n;": "", "e = tag bare.v r.*;": "", "d = tag deep.u i.h;": "",
		"o = tag zz.none;": "name", "o = tag opt.zz;": "name", "o = tag opt.v x;": "name", "p = tag pair.a;": "name", "p = tag pair.a x;": "name", "x = tag o.none;": "name", "x = tag opt.a;": "name",
		"o = tag opt.some;": "type", "o = tag opt.none b;": "type", "o = tag opt.some x;": "type", "o = tag opt.some bb;": "type", "e = tag bare.w x;": "type", "e = tag bare.v r;": "type", "d = tag deep.v d;": "type", "o = tag opt.some o;": "type",
		"p = tag opt.none;": "type", "e = tag opt.none;": "type", "o = tag bare.u;": "type", "d = tag bare.u;": "type", "x = tag bare.v x;": "type", "be = tag bare.u;": "type", "e = tag opt.some h.d;": "type",
		"o = tag opt.some h.d;": "place", "e = tag bare.w h.f;": "place", "o = tag opt.some h.i.b;": "place", "o = tag opt.some p.b;": "",
		"be.* = tag bare.u;": "", "i.q = tag bare.w f;": "", "j.g = tag bare.u;": "", "i.o = tag opt.none;": "place", "bd.* = tag deep.v bd;": "place",
	})
	wantStmts(t, refs, map[string]string{
		"o = tag opt.some rb.*;": "place", "o = tag opt.some mb.*;": "place", "o = tag opt.some mb;": "type", "e = tag bare.v m.*;": "", "mo.* = tag opt.none;": "place", "mo = tag opt.none;": "type", "mi.*.q = tag bare.u;": "", "ri.*.q = tag bare.u;": "place",
	})
}

// P9.1: references: of what stands there, but no mut of what is shared, and into locals alone.
func TestRefs(t *testing.T) {
	wantStmts(t, lets, map[string]string{
		"r = ref x;": "", "r = ref b.*;": "", "r = ref f.x;": "", "r = ref r.*;": "", "r = ref h.n;": "", "r = ref i.e.*.f.x;": "", "r = ref p.b.*;": "",
		"r = ref b;": "type", "r = ref r;": "type", "r = ref f;": "type", "x = ref x;": "type", "b = ref x;": "type", "r = mut x;": "type", "x = mut x;": "type", "r = mut r.*;": "type", "f.x = ref x;": "type", "bb.* = ref b;": "type", "b = ref r;": "type",
	})
	wantStmts(t, refs, map[string]string{
		"r = ref m.*;": "", "rp = ref p;": "", "rp = ref mp.*;": "", "rp = ref bp.*;": "", "rb = ref p.b;": "", "rb = ref rp.*.b;": "", "rb = ref mh.*.d;": "", "rb = ref h.d;": "", "ri = ref i;": "", "rbb = ref bb;": "", "rb = ref rbb.*.*;": "", "rbb = ref rbb.*;": "",
		"m = mut x;": "", "m = mut m.*;": "", "mp = mut p;": "", "mp = mut mp.*;": "", "mh = mut h;": "", "mb = mut h.d;": "", "mb = mut mh.*.d;": "", "mb = mut mi.*.e.*.d;": "", "mo = mut i.o;": "", "mo = mut mi.*.o;": "", "m = mut b.*;": "", "mi = mut i;": "",
		"m = mut r.*;": "place", "mp = mut rp.*;": "place", "mb = mut rp.*.b;": "place", "m = mut rp.*.b.*;": "place", "mo = mut ri.*.o;": "place", "m = mut ri.*.h.n;": "place",
		"m = ref x;": "type", "m = ref m;": "type", "m = mut m;": "type", "m = mut r;": "type", "r = mut r.*;": "type", "rp = mut p;": "type", "mp = ref p;": "type", "mp = mut x;": "type", "mh = mut p;": "type", "mb = mut x;": "type", "rb = ref bb;": "type", "rb = ref rbb;": "type", "m.* = ref x;": "type", "mb.* = mut x;": "type", "r.* = mut r.*;": "type", "mp.*.a = ref x;": "type",
	})
}

// P9.1: Args' codes, in order, are told ahead of To's, and these ahead of all else.
func TestFirst(t *testing.T) {
	wantStmts(t, lets, map[string]string{
		"zz = 5;": "name", "x.a = 5;": "type", "x.* = 5;": "type", "f.zz = 5;": "name", "b.a = 5;": "type", "f.* = 5;": "type", "e.u = 5;": "type", "r.a = 5;": "type", "zz.a = 5;": "name", "f.x.y = 5;": "type", "f.zz.a.* = 5;": "name", "bp.a = 5;": "type", "bp.*.* = 5;": "type", "zz.* = 5;": "name",
		"x = use zz;": "name", "zz = use x.a;": "type", "x.a = use zz;": "name", "x.a = use f.zz;": "name", "f.zz = use x.*;": "type",
		"x = add zz x.*;": "name", "x = add x.* zz;": "type", "zz = add x b.a;": "type", "zz = add b x;": "name", "x = add b zz;": "name", "x.* = add zz b;": "name", "b = less x f.zz;": "name",
		"x = new zz x.*;": "type", "x = new zz x zz y.*;": "name", "zz = new pair b x;": "name", "x = new pair x b zz;": "name", "x.* = new zz;": "type",
		"x = tag zz.u zz;": "name", "x = tag zz.u x.*;": "type", "f.* = tag zz.u;": "type", "zz = tag opt.some;": "name",
		"r = ref zz;": "name", "r = mut x.*;": "type", "zz = ref x;": "name", "x.* = mut f.zz;": "name", "out zz;": "name", "out x.*;": "type", "out f.zz;": "name", "out e.v;": "type", "out o.some;": "type", "out b0;": "name", "out main;": "name", "out flat.x;": "name",
	})
}

// P9.1: the codes of one kind stand in its order, whatever else is wrong.
func TestWithinKinds(t *testing.T) {
	p := parsed(t, decls+" fn main() int { "+refs+" b0: return x; }")
	for text, s := range map[string]api.Stmt{
		"type":  {Kind: api.SUse, To: at("r.*"), Args: []api.Place{at("mp.*.b")}},
		"place": {Kind: api.SBox, To: at("rp.*.b"), Args: []api.Place{at("rp.*.a")}},
		"name":  {Kind: api.SNew, To: at("rp.*.b"), Name: "opt", Args: []api.Place{at("rp.*.b")}},
	} {
		p.Funcs[0].Blocks[0].Stmts = []api.Stmt{s}
		diags := check.Check(p)
		if len(diags) != 1 || diags[0].At != 0 || word(diags[0].Code) != text {
			t.Error(diags, text)
		}
	}
}
