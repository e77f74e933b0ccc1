package tree_test

import (
	"fmt"
	"slices"
	"strings"
	"testing"

	"drogue/api"
	"drogue/tree"
)

const words = "struct enum fn let safe hook int box ref mut add sub less use new tag out goto if match check call catch return"

// place: the place with a local and steps, whatever they are.
func place(local string, steps ...string) api.Place { return api.Place{Local: local, Steps: steps} }

// short: enough of a text to know it by.
func short(text string) string { return text[:min(len(text), 60)] }

// steps: a point and a step, so many times.
func steps(n int, step string) string { return strings.Repeat("."+step, n) }

// texts: what a range over Uses tells, as texts.
func texts(uses func(yield func(api.Place) bool)) []string {
	var list []string
	for p := range uses {
		list = append(list, tree.Text(p))
	}
	return list
}

func wantPlace(t *testing.T, text string, want api.Place) {
	t.Helper()
	got, ok := tree.Place(text)
	if !ok || got.Local != want.Local || !slices.Equal(got.Steps, want.Steps) {
		t.Errorf("Place(%q): %q %v, want %q", short(text), got, ok, want)
	}
	if back := tree.Text(got); back != text {
		t.Errorf("Text(%q): %q, want %q", got, back, short(text))
	}
}

func wantNoPlace(t *testing.T, list ...string) {
	t.Helper()
	for _, text := range list {
		if got, ok := tree.Place(text); ok || got.Local != "" || len(got.Steps) != 0 {
			t.Errorf("Place(%q): %q %v, want none", short(text), got, ok)
		}
	}
}

// P5.1, Place: with 0 to 8 steps, each a name or *.
func TestPlace(t *testing.T) {
	for _, local := range []string{"x", "z", "a0", "a_", "boxes", "ints", "abcdefghijklmnop", "a_______________"} {
		for _, step := range []string{"*", "a", "b_1", "ref_", "abcdefghijklmnop"} {
			for n := range 9 {
				wantPlace(t, local+steps(n, step), place(local, slices.Repeat([]string{step}, n)...))
			}
			for _, n := range []int{9, 10, 11, 16, 255, 256, 100000} {
				wantNoPlace(t, local+steps(n, step))
			}
		}
	}
	wantPlace(t, "x.*.a", place("x", "*", "a"))
	wantPlace(t, "x.x.*.*.y.*", place("x", "x", "*", "*", "y", "*"))
}

// P5.1, Place: no local, a step of no byte, two points, a point ahead or behind, * as the local, 9 steps, and other bytes.
func TestNoPlace(t *testing.T) {
	wantNoPlace(t, "", ".", "..", ". ", "*", "*.a", "*.*", "**", ".a", ".*", ".x.a", "x.", "x.*.", "x.a.", "x..", "x..a", "x..*", "x.a..b", "x...a", "..x", strings.Repeat(".", 8), strings.Repeat(".", 100000))
	wantNoPlace(t, "x"+steps(8, "a")+".", "x"+steps(7, "a")+"..", "x."+steps(7, "a"), "."+steps(7, "a"), "x"+steps(8, "a")+".a", "x"+steps(9, "*"))
	for _, bad := range []string{"X", "5", "-5", "_", "_a", "aB", "a b", " a", "a ", "a\n", "\ta", "a*", "**", "a-", "a:", "a#", "#", "é", "\x00", "a\x00", "\xff", "a\xff", "abcdefghijklmnopq", strings.Repeat("a", 100000)} {
		wantNoPlace(t, bad, bad+".a", bad+".*", "x."+bad, "x.*."+bad, "x."+bad+".a", "x"+steps(7, "a")+"."+bad)
	}
	for _, word := range strings.Fields(words) {
		wantNoPlace(t, word, word+".a", word+".*", "x."+word, "x.*."+word, "x."+word+".a")
		wantPlace(t, word+"s."+word+"_", place(word+"s", word+"_"))
	}
	wantNoPlace(t, "x .a", "x. a", "x.a ", " x.a", "x.a\n", "x,a", "x:a", "x.a;", "x/a", "x*", "x.*a", "x.a*")
}

// P5.1, Text: of any place, also of what is none.
func TestText(t *testing.T) {
	for _, c := range []struct {
		p    api.Place
		want string
	}{
		{place("x", "*", "a"), "x.*.a"}, {place("x"), "x"}, {api.Place{Local: "x", Steps: []string{}}, "x"}, {api.Place{}, ""},
		{place("", "a"), ".a"}, {place("", "", ""), ".."}, {place("x", ""), "x."}, {place("x", "", "a"), "x..a"}, {place("*", "*"), "*.*"},
		{place("x.y", "a.b"), "x.y.a.b"}, {place("\x00", "\xff", " "), "\x00.\xff. "}, {place("fn", "BOX"), "fn.BOX"},
		{place("x", slices.Repeat([]string{"a"}, 3000)...), "x" + steps(3000, "a")},
	} {
		if got := tree.Text(c.p); got != c.want {
			t.Errorf("Text(%q): %q, want %q", c.p, short(got), short(c.want))
		}
	}
}

// P5.1, Equal and Front: the same, one the beginning of the other, another local, another step.
func TestEqualFront(t *testing.T) {
	long := slices.Repeat([]string{"a"}, 300)
	for _, c := range []struct {
		a, b              api.Place
		equal, front, rev bool
	}{
		{place("x"), place("x"), true, true, true},
		{place("x", "*", "a"), place("x", "*", "a"), true, true, true},
		{place("x"), place("y"), false, false, false},
		{place("x"), place("xy"), false, false, false},
		{place("x"), place("x", "a"), false, true, false},
		{place("x"), place("x", "*", "a", "b"), false, true, false},
		{place("x"), place("y", "a"), false, false, false},
		{place("x", "a"), place("x", "a", "*"), false, true, false},
		{place("x", "a"), place("y", "a"), false, false, false},
		{place("x", "a"), place("y", "a", "b"), false, false, false},
		{place("x", "a"), place("x", "b"), false, false, false},
		{place("x", "a"), place("x", "ab"), false, false, false},
		{place("x", "a"), place("x", "*"), false, false, false},
		{place("x", "a", "b"), place("x", "b", "a"), false, false, false},
		{place("x", "a", "b"), place("x", "a", "c", "b"), false, false, false},
		{place("x", "b"), place("x", "a", "b"), false, false, false},
		{place("x", long...), place("x", long...), true, true, true},
		{place("x", long[1:]...), place("x", long...), false, true, false},
		// What is no place is held against others alike.
		{api.Place{}, api.Place{}, true, true, true},
		{api.Place{}, api.Place{Steps: []string{}}, true, true, true},
		{api.Place{}, place("x"), false, false, false},
		{api.Place{}, place("", "a"), false, true, false},
		{place("x", ""), place("x"), false, false, true},
		{place("x.a"), place("x", "a"), false, false, false},
		{place("x", "a.b"), place("x", "a", "b"), false, false, false},
		{place("\xff", "\x00"), place("\xff", "\x00"), true, true, true},
	} {
		if tree.Equal(c.a, c.b) != c.equal || tree.Equal(c.b, c.a) != c.equal {
			t.Errorf("Equal of %q and %q isn't %v", c.a, c.b, c.equal)
		}
		if tree.Front(c.a, c.b) != c.front || tree.Front(c.b, c.a) != c.rev {
			t.Errorf("Front of %q and %q isn't %v, or the other way round %v", c.a, c.b, c.front, c.rev)
		}
	}
}

// P5.1 and rule 4: steps behind a list's length don't count, and aren't touched.
func TestSpareSteps(t *testing.T) {
	room := []string{"a", "b", "c", "d"}
	a, b := place("x", room[:1]...), place("x", room[1:2]...)
	b.Steps[0] = "a"
	if !tree.Equal(a, b) || !tree.Front(a, b) || tree.Text(a) != "x.a" {
		t.Error(a, b)
	}
	got, _ := tree.Place("x.a.b")
	_ = append(got.Steps, "z")
	if again, _ := tree.Place("x.a.b"); tree.Text(again) != "x.a.b" || !slices.Equal(room, []string{"a", "a", "c", "d"}) {
		t.Error(again, room)
	}
}

// uses: a function whose places stand at all spots where a place may.
func uses() api.Func {
	return api.Func{
		Name: "f", Params: []api.Var{{Name: "p", Type: "int"}}, Locals: []api.Var{{Name: "q", Type: "int"}}, Result: "int",
		Blocks: []api.Block{
			{Name: "b0", Stmts: []api.Stmt{
				{Kind: api.SNum, To: place("a"), N: 1},
				{Kind: api.SAdd, To: place("b", "*"), Args: []api.Place{place("c"), place("d", "e")}},
				{Kind: api.SOut, Args: []api.Place{place("g")}},
			}, Term: api.Term{Kind: api.TCall, To: place("h"), Name: "f", Args: []api.Place{place("i"), place("j", "*", "k")}, Blocks: []string{"b1"}}},
			{Name: "b1", Term: api.Term{Kind: api.TMatch, Args: []api.Place{place("l")}, Arms: []api.Arm{{Variant: "v", Local: "w", Block: "b2"}}}},
			{Name: "b2", Stmts: []api.Stmt{{Kind: api.SNew, To: place("m"), Name: "n"}}, Term: api.Term{Kind: api.TGoto, Blocks: []string{"b3"}}},
			{Name: "b3", Term: api.Term{Kind: api.TReturn, Args: []api.Place{place("o")}}},
		},
	}
}

const usesTexts = "a c d.e b.* g i j.*.k h l m o"

// P5.2, Uses: block by block, the Args ahead of To, the statements ahead of the end.
func TestUses(t *testing.T) {
	if got := strings.Join(texts(tree.Uses(uses())), " "); got != usesTexts {
		t.Errorf("%s, want %s", got, usesTexts)
	}
	for _, f := range []api.Func{{}, {Blocks: []api.Block{}}, {Blocks: make([]api.Block, 3)}, {Params: uses().Params, Locals: uses().Locals}, {Blocks: []api.Block{{Stmts: make([]api.Stmt, 4)}}}} {
		if got := texts(tree.Uses(f)); len(got) != 0 {
			t.Errorf("%q of %v", got, f)
		}
	}
}

// P5.2, Uses: a To whose local is empty isn't told; an Arg is, whatever it is, and whatever kind it stands in.
func TestUsesEmptyTo(t *testing.T) {
	f := api.Func{Blocks: []api.Block{{
		Stmts: []api.Stmt{
			{To: place("", "a", "*"), Args: []api.Place{place("x"), {}, place("", "b")}},
			{Kind: -7, To: place("y", ""), Args: []api.Place{place("*")}},
			{Kind: api.SOut, To: place("z")},
		},
		Term: api.Term{Kind: 99, To: place("", "c"), Args: []api.Place{{}, place("w", "", "d")}},
	}, {Term: api.Term{To: place("v")}}}}
	want := []string{"x", "", ".b", "*", "y.", "z", "", "w..d", "v"}
	if got := texts(tree.Uses(f)); !slices.Equal(got, want) {
		t.Errorf("%q, want %q", got, want)
	}
}

// P5.2 and rule 7: Uses may be left early, at each of its places, and gone through again, within itself too.
func TestUsesLeft(t *testing.T) {
	all := strings.Fields(usesTexts)
	it := tree.Uses(uses())
	for n := range len(all) {
		count := 0
		for p := range it {
			if tree.Text(p) != all[count] {
				t.Fatal(n, count, p)
			}
			if count++; count == n+1 {
				break
			}
		}
		if count != n+1 {
			t.Fatal(n, count)
		}
	}
	inner := 0
	for range it {
		inner += len(texts(it))
	}
	if inner != len(all)*len(all) {
		t.Error(inner)
	}
}

// P5.2 and rules 4 and 7: what is changed behind the call, in the function or in what was told, isn't seen in it; and the function isn't changed.
func TestUsesKept(t *testing.T) {
	f := uses()
	it := tree.Uses(f)
	var got []string
	for p := range it {
		got = append(got, tree.Text(p))
		for i := range p.Steps {
			p.Steps[i] = "changed"
		}
		if len(got) == 1 {
			if !tree.Same(api.Prog{Funcs: []api.Func{f}}, api.Prog{Funcs: []api.Func{uses()}}) {
				t.Error("the function was changed")
			}
			f.Blocks[0].Stmts[1].Args[1].Steps[0] = "changed"
			f.Blocks[0].Stmts[1].To.Steps[0] = "changed"
			f.Blocks[0].Term.Args[1].Local = "changed"
			f.Blocks[1] = api.Block{}
			clear(f.Blocks[2].Stmts)
		}
	}
	clear(f.Blocks)
	for _, list := range [][]string{got, texts(it)} {
		if text := strings.Join(list, " "); text != usesTexts {
			t.Errorf("%s, want %s", text, usesTexts)
		}
	}
}

// P5.2, Vars: the parameters, then the locals, in new memory.
func TestVars(t *testing.T) {
	room := []api.Var{{Name: "a", Type: "int"}, {Name: "b", Type: "ref c"}, {Name: "spare"}, {Name: "spare"}}
	locals := []api.Var{{Name: "a"}, {}, {Name: "\xff", Type: "\x00"}}
	for _, c := range []struct {
		f    api.Func
		want []api.Var
	}{
		{api.Func{}, nil},
		{api.Func{Params: []api.Var{}, Locals: []api.Var{}}, nil},
		{api.Func{Params: room[:2]}, room[:2]},
		{api.Func{Locals: locals}, locals},
		{api.Func{Params: room[:2], Locals: locals}, []api.Var{room[0], room[1], locals[0], locals[1], locals[2]}},
		{api.Func{Params: room[:0], Locals: room[:1]}, room[:1]},
	} {
		got := tree.Vars(c.f)
		if !slices.Equal(got, c.want) {
			t.Errorf("%v, want %v", got, c.want)
		}
		spare := got[:cap(got)]
		for i := range spare {
			spare[i].Name = "changed"
		}
	}
	if fmt.Sprint(room, locals) != "[{a int} {b ref c} {spare } {spare }] [{a } { } {\xff \x00}]" {
		t.Error("what was handed in was changed:", room, locals)
	}
}

// P5.2, Find and Block: the first one with a name, also if it stands twice; -1 of none.
func TestFindBlock(t *testing.T) {
	names := []string{"a", "b", "a", "", "ab", "b", "\xff", "fn", "z"}
	var list []api.Var
	var f api.Func
	for i, name := range names {
		list = append(list, api.Var{Name: name, Type: "t" + name})
		f.Blocks = append(f.Blocks, api.Block{Name: name, At: i})
	}
	for name, want := range map[string]int{"a": 0, "b": 1, "": 3, "ab": 4, "\xff": 6, "fn": 7, "z": 8, "ta": -1, "c": -1, "A": -1, "a ": -1, "abc": -1, "\x00": -1, strings.Repeat("a", 100000): -1} {
		if got := tree.Find(list, name); got != want {
			t.Errorf("Find %q: %d, want %d", short(name), got, want)
		}
		if got := tree.Block(f, name); got != want {
			t.Errorf("Block %q: %d, want %d", short(name), got, want)
		}
		if a, b, c, d := tree.Find(nil, name), tree.Find([]api.Var{}, name), tree.Block(api.Func{}, name), tree.Block(api.Func{Name: name, Params: list, Locals: list}, name); a != -1 || b != -1 || c != -1 || d != -1 {
			t.Error(short(name), a, b, c, d)
		}
	}
	// What stands behind a list's length isn't found.
	f.Blocks = f.Blocks[:8]
	if tree.Find(list[:8], "z") != -1 || tree.Block(f, "z") != -1 {
		t.Error("found behind the length")
	}
}
