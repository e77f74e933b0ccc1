package check_test

import (
	"math/rand"
	"reflect"
	"slices"
	"strings"
	"testing"

	"drogue/api"
	"drogue/check"
	"drogue/table"
	"drogue/tree"
)

// at: the place of a text, whatever its steps.
func at(text string) api.Place {
	parts := strings.Split(text, ".")
	return api.Place{Local: parts[0], Steps: parts[1:]}
}

// function: a function with these parameters and locals, and the table of its types.
func function(t *testing.T, params, locals string) (*table.Table, api.Func) {
	t.Helper()
	p := parsed(t, decls+" fn main("+params+") int { "+locals+" b0: return x; }")
	tab, diags := table.New(p)
	if tab == nil {
		t.Fatal(diags)
	}
	return tab, p.Funcs[0]
}

func wantPlace(t *testing.T, tab *table.Table, f api.Func, p api.Place, want check.Typed, code int) {
	t.Helper()
	if got, told := check.Place(tab, f, p); got != want || told != code {
		t.Errorf("%s: %+v %d, want %+v %d", tree.Text(p), got, told, want, code)
	}
	copied := want.Type == "int" || strings.HasPrefix(want.Type, "ref ")
	free := code == 0 && !want.Shared && !want.Lent && !want.Hooked
	if got := check.Movable(tab, f, p); got != (copied || free) {
		t.Errorf("%s: movable %v", tree.Text(p), got)
	}
	if got := check.Moves(tab, f, p); got != (free && !copied) {
		t.Errorf("%s: moves %v", tree.Text(p), got)
	}
}

// P9.2: what a place is: its type, and what it goes through; of which Movable and Moves follow.
func TestPlace(t *testing.T) {
	tab, f := function(t, "z ref hk", refs)
	for text, want := range map[string]check.Typed{
		"x": {Type: "int"}, "p": {Type: "pair"}, "p.a": {Type: "int"}, "p.b": {Type: "box int"}, "p.b.*": {Type: "int"}, "bb": {Type: "box box int"}, "bb.*": {Type: "box int"}, "bb.*.*": {Type: "int"}, "bp.*.b.*": {Type: "int"}, "bp.*": {Type: "pair"}, "n": {Type: "none"}, "o": {Type: "opt"}, "i.c.g": {Type: "bare"}, "i.c.f.y": {Type: "int"}, "i.h": {Type: "hk"}, "h": {Type: "hk"}, "i.e.*": {Type: "hk"},
		"h.n": {Type: "int", Hooked: true}, "h.d": {Type: "box int", Hooked: true}, "h.d.*": {Type: "int", Hooked: true}, "h.i.b.*": {Type: "int", Hooked: true}, "h.f": {Type: "flat", Hooked: true}, "h.f.x": {Type: "int", Hooked: true}, "i.h.d": {Type: "box int", Hooked: true}, "i.e.*.i": {Type: "pair", Hooked: true},
		"r": {Type: "ref int"}, "rp": {Type: "ref pair"}, "r.*": {Type: "int", Shared: true}, "rb.*": {Type: "box int", Shared: true}, "rb.*.*": {Type: "int", Shared: true}, "rbb.*.*.*": {Type: "int", Shared: true}, "rp.*": {Type: "pair", Shared: true}, "rp.*.b.*": {Type: "int", Shared: true}, "ri.*.c.f": {Type: "flat", Shared: true}, "z": {Type: "ref hk"}, "z.*": {Type: "hk", Shared: true},
		"m": {Type: "mut int"}, "mh": {Type: "mut hk"}, "m.*": {Type: "int", Lent: true}, "mb.*": {Type: "box int", Lent: true}, "mp.*.b": {Type: "box int", Lent: true}, "mp.*.b.*": {Type: "int", Lent: true}, "mh.*": {Type: "hk", Lent: true}, "mo.*": {Type: "opt", Lent: true}, "mi.*.e.*": {Type: "hk", Lent: true},
		"mh.*.n": {Type: "int", Lent: true, Hooked: true}, "mi.*.e.*.i.b": {Type: "box int", Lent: true, Hooked: true}, "ri.*.h.d": {Type: "box int", Shared: true, Hooked: true}, "z.*.d": {Type: "box int", Shared: true, Hooked: true}, "z.*.f.x": {Type: "int", Shared: true, Hooked: true},
	} {
		wantPlace(t, tab, f, at(text), want, 0)
	}
}

// P9.2: places that there aren't: noughts, and the code of the first step that can't be gone.
func TestNoPlace(t *testing.T) {
	tab, f := function(t, "z ref hk", refs)
	for code, list := range map[int]string{
		api.DName: "zz zz.a zz.* X int main b0 pair flat.x p.zz p.a2 p.A p.zz.* p.zz.a bp.*.zz h.i.zz rp.*.zz mi.*.e.*.zz n.a n.n p. p.**",
		api.DType: "x.* x.a p.* p.a.* p.a.zz b.a b.*.* b.*.a bb.a bb.zz rp.a rp.zz mp.b r.*.* r.x o.none o.some o.* e.v e.u bp.b bp.*.* h.* n.* z.n p.b.zz x. x.** rp.*.* m.m h.f.x.y i.o.some.zz x.*.zz.* p.a.b.c",
	} {
		for _, text := range strings.Fields(list) {
			wantPlace(t, tab, f, at(text), check.Typed{}, code)
		}
	}
	wantPlace(t, tab, f, api.Place{}, check.Typed{}, api.DName)
	wantPlace(t, tab, f, api.Place{Local: "", Steps: []string{""}}, check.Typed{}, api.DName)
	wantPlace(t, tab, f, api.Place{Local: "p.a"}, check.Typed{}, api.DName)
	wantPlace(t, tab, f, api.Place{Local: "p", Steps: []string{"b.*"}}, check.Typed{}, api.DName)
	wantPlace(t, tab, f, api.Place{Local: "x", Steps: []string{}}, check.Typed{Type: "int"}, 0)
	none := api.Func{}
	wantPlace(t, tab, none, at("x"), check.Typed{}, api.DName)
}

// P9.2: of two locals with one name the first one counts, and parameters are ahead of locals.
func TestFirstLocal(t *testing.T) {
	tab, f := function(t, "a int, z ref hk", "let x flat; let x box int; let a box flat; let z mut hk;")
	wantPlace(t, tab, f, at("x.y"), check.Typed{Type: "int"}, 0)
	wantPlace(t, tab, f, at("x.*"), check.Typed{}, api.DType)
	wantPlace(t, tab, f, at("a"), check.Typed{Type: "int"}, 0)
	wantPlace(t, tab, f, at("z.*"), check.Typed{Type: "hk", Shared: true}, 0)
}

// P9.2: Function: the first one of a name.
func TestFunction(t *testing.T) {
	p := parsed(t, "struct s { x int; } fn f(x int) int { b: return x; }"+main+"fn f() int"+body+"fn g() int"+body+main)
	for name, want := range map[string]int{"f": 0, "main": 1, "g": 3, "s": -1, "x": -1, "b": -1, "zz": -1, "": -1, "F": -1, "mai": -1, "main ": -1, "\xff": -1} {
		if got := check.Function(p, name); got != want {
			t.Errorf("%q: %d, want %d", name, got, want)
		}
	}
	if got := check.Function(api.Prog{}, "main"); got != -1 {
		t.Error(got)
	}
	if got := check.Function(api.Prog{Funcs: []api.Func{{Name: "\x00"}, {}, {}}}, ""); got != 1 {
		t.Error(got)
	}
}

// deepest: a place of so many steps, all through boxes of a struct that holds a box of itself.
func deepest(steps int) api.Place {
	return api.Place{Local: "x", Steps: slices.Repeat([]string{"next", "*"}, steps/2)}
}

// P1 and P9.2: any places, in any function, by any table.
func TestAnyPlace(t *testing.T) {
	p := parsed(t, "struct a { next box a; v int; } fn main() int { let x a; b: return x.v; }")
	tab, _ := table.New(p)
	wantPlace(t, tab, p.Funcs[0], deepest(100000), check.Typed{Type: "a"}, 0)
	wantPlace(t, tab, p.Funcs[0], deepest(8), check.Typed{Type: "a"}, 0)
	none, _ := table.New(parsed(t, "struct a { x a; }"))
	for _, tab := range []*table.Table{none, new(table.Table)} {
		wantPlace(t, tab, p.Funcs[0], at("x.next"), check.Typed{}, api.DType)
		wantPlace(t, tab, p.Funcs[0], at("zz"), check.Typed{}, api.DName)
	}
	r := rand.New(rand.NewSource(9))
	words := []string{"", "int", "box int", "ref int", "mut ref int", "a", "ref a", "mut box a", "box zz", "zz", "x", "next", "v", "*", "\xff", "box", "box ", strings.Repeat("box ", 9) + "a", strings.Repeat("box ", 100000)}
	one := func() string { return words[r.Intn(len(words))] }
	for range 20000 {
		var f api.Func
		for range r.Intn(4) {
			f.Params = append(f.Params, api.Var{Name: one(), Type: one()})
			f.Locals = append(f.Locals, api.Var{Name: one(), Type: one()})
		}
		q := api.Place{Local: one()}
		for range r.Intn(4) {
			q.Steps = append(q.Steps, one())
		}
		for _, tab := range []*table.Table{tab, none} {
			is, code := check.Place(tab, f, q)
			movable, moves := check.Movable(tab, f, q), check.Moves(tab, f, q)
			if code != 0 && (is != check.Typed{} || movable || moves) || moves && !movable {
				t.Fatal(f, q, is, code, movable, moves)
			}
		}
	}
}

// P9.1, P9.2 and rule 4: what is handed in isn't changed, nor what is behind its length; answers are new memory.
func TestNewMemory(t *testing.T) {
	text := decls + funcs + " " + main + " fn here() int { let x int; let b box int; let h hk; b0: x = use zz; b = use h.d; x = use b; call x = f(b) b0; b1: out x; goto zz; }"
	p, again := parsed(t, text), parsed(t, text)
	last := &p.Funcs[len(p.Funcs)-1]
	room := append(last.Locals, api.Var{Name: "spare"})
	last.Locals = room[:len(room)-1]
	before := told(text, check.Check(p))
	if strings.Count(before, ",") != 4 {
		t.Error(before)
	}
	diags := check.Check(p)
	for i := range diags[:cap(diags)] {
		diags[:cap(diags)][i] = api.Diag{At: -1, Code: -1}
	}
	if after := told(text, check.Check(p)); after != before {
		t.Errorf("%q, then %q", before, after)
	}
	tab, _ := table.New(p)
	for q := range tree.Uses(*last) {
		check.Place(tab, *last, q)
		check.Movable(tab, *last, q)
		check.Moves(tab, *last, q)
	}
	check.Function(p, "here")
	if !reflect.DeepEqual(p, again) || room[len(room)-1].Name != "spare" {
		t.Error("what was handed in was changed")
	}
}
