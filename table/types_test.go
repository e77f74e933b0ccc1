package table_test

import (
	"math/rand"
	"reflect"
	"strings"
	"testing"

	"drogue/api"
	"drogue/table"
)

// want is what the calls are to answer of a type; noughts and -1: it isn't known.
type want struct {
	known               bool
	slots               int
	drops, copied, safe bool
	number              int
}

// asked: what the calls answer of a type.
func asked(tab *table.Table, typ string) want {
	return want{tab.Known(typ), tab.Slots(typ), tab.Drops(typ), tab.Copied(typ), tab.Safe(typ), tab.Number(typ)}
}

func wantType(t *testing.T, tab *table.Table, typ string, w want) {
	t.Helper()
	if got := asked(tab, typ); got != w {
		t.Errorf("%q: %+v, want %+v", typ[:min(len(typ), 60)], got, w)
	}
}

// wantUnknown: of texts that are no types that are known nothing is told.
func wantUnknown(t *testing.T, tab *table.Table, list ...string) {
	t.Helper()
	for _, typ := range list {
		wantType(t, tab, typ, want{number: -1})
		wantNoParts(t, tab, typ, true, true)
	}
}

// wantNoParts: it is the name of no struct, of no enum, and has no such parts.
func wantNoParts(t *testing.T, tab *table.Table, typ string, noStruct, noEnum bool) {
	t.Helper()
	if s, ok := tab.Struct(typ); noStruct && (ok || !reflect.DeepEqual(s, api.Struct{})) {
		t.Errorf("Struct(%q): %+v %v", typ, s, ok)
	}
	if e, ok := tab.Enum(typ); noEnum && (ok || !reflect.DeepEqual(e, api.Enum{})) {
		t.Errorf("Enum(%q): %+v %v", typ, e, ok)
	}
	for _, part := range []string{"", "a", "u", "v", "x", "y", "n", "int", typ, "*", "\xff"} {
		if noStruct {
			wantPart(t, "Field", tab.Field, typ, part, "", 0, false)
		}
		if noEnum {
			wantPart(t, "Variant", tab.Variant, typ, part, "", 0, false)
		}
	}
}

func wantPart(t *testing.T, name string, call func(typ, name string) (string, int, bool), typ, part, is string, at int, ok bool) {
	t.Helper()
	if gotType, gotAt, gotOK := call(typ, part); gotType != is || gotAt != at || gotOK != ok {
		t.Errorf("%s(%q, %q): %q %d %v, want %q %d %v", name, typ, part, gotType, gotAt, gotOK, is, at, ok)
	}
}

const some = "struct none { } enum opt { u; v two; w int; x hk; } struct pair safe { a int; b opt; c box pair; d none; e int; }" +
	"struct hk hook { n int; } enum bare { u; v int; w; } struct two { h hk; } struct flat { x int; y none; z bare; }" +
	"struct both safe hook { } enum deep { u box deep; } struct holds { x flat; y deep; z int; } enum last { u; v int; w box int; }"

// P8.2: Known, Slots, Drops, Copied, Safe, Number: of int, of each declaration, of boxes, refs and muts of them.
func TestTypes(t *testing.T) {
	tab := made(t, some)
	for typ, w := range map[string]want{
		"int":   {slots: 1, number: -1},
		"none":  {slots: 1, number: 0},
		"pair":  {slots: 6, drops: true, safe: true, number: 1},
		"hk":    {slots: 1, drops: true, number: 2},
		"two":   {slots: 1, drops: true, number: 3},
		"flat":  {slots: 4, number: 4},
		"both":  {slots: 1, drops: true, safe: true, number: 5},
		"holds": {slots: 7, drops: true, number: 6},
		"opt":   {slots: 2, drops: true, number: -1},
		"bare":  {slots: 2, number: -1},
		"deep":  {slots: 2, drops: true, number: -1},
		"last":  {slots: 2, drops: true, number: -1},
	} {
		w.known, w.copied = true, typ == "int"
		wantType(t, tab, typ, w)
		for n := 1; n <= 8; n++ {
			wantType(t, tab, boxes(n, typ), want{known: true, slots: 1, drops: true, number: -1})
		}
		for n := range 9 {
			wantType(t, tab, "ref "+boxes(n, typ), want{known: true, slots: 1, copied: true, number: -1})
			wantType(t, tab, "mut "+boxes(n, typ), want{known: true, slots: 1, number: -1})
		}
		wantUnknown(t, tab, boxes(9, typ), "ref "+boxes(9, typ), "box ref "+typ, "ref mut "+typ, typ+" ", " "+typ, "box  "+typ, typ+typ, typ+"."+typ, strings.ToUpper(typ), "box", "box "+typ+" int")
		wantNoParts(t, tab, "box "+typ, true, true)
		wantNoParts(t, tab, "ref "+typ, true, true)
		wantNoParts(t, tab, "mut "+typ, true, true)
	}
}

// P8.2: types that aren't known: other names, a part's name, a function's, words, other bytes.
func TestUnknown(t *testing.T) {
	tab := made(t, some+"fn f() int { let g int; b: return g; }")
	for _, name := range []string{"zz", "a", "u", "n", "f", "main", "g", "b", "pairs", "pai", "fn", "struct", "abcdefghijklmnopq", "*", "5", "", "\x00", "\xff", strings.Repeat("a", 100000), boxes(100000, "int")} {
		wantUnknown(t, tab, name, "box "+name, "ref "+name, "mut "+name, boxes(8, name), "ref box "+name)
	}
	wantUnknown(t, tab, "Pair", "pair\n", "\tpair", "pair safe", "struct pair", "pair.a", "int.a", "int int", "mut", "ref ", "ref  int")
	empty := made(t, "")
	wantUnknown(t, empty, "none", "pair", "box pair", "ref opt")
	wantType(t, empty, "int", want{known: true, slots: 1, copied: true, number: -1})
	wantType(t, empty, "box int", want{known: true, slots: 1, drops: true, number: -1})
}

// P8.2: Drops, by what is within, whatever the order, but not by what is behind a box or isn't within.
func TestDrops(t *testing.T) {
	for text, drops := range map[string]bool{
		"struct a { }":                      false,
		"struct a safe { }":                 false,
		"struct a hook { }":                 true,
		"struct a { x int; }":               false,
		"struct a { x int; y box int; }":    true,
		"struct a { y box int; x int; }":    true,
		"struct a { x b; } struct b { }":    false,
		"struct a { x b; } struct b hook{}": true,
		"struct b hook{} struct a { x b; }": true,
		"struct b hook{} struct a { x c; y d; } struct c { } struct d { }":            false,
		"struct a { x b; y c; } struct b { } struct c { x d; } struct d { x box a; }": true,
		"enum a { u; }": false,
		"enum a { u int; v; w b; } enum b { u; }":                                  false,
		"enum a { u; v int; w box a; }":                                            true,
		"enum a { w box int; v int; u; }":                                          true,
		"enum a { u b; } struct b { x c; } enum c { u; v d; } struct d hook { }":   true,
		"enum a { u b; } struct b { x c; } enum c { u; v int; } struct d hook { }": false,
	} {
		if got := made(t, text).Drops("a"); got != drops {
			t.Errorf("%v of %q", got, text)
		}
	}
}

// P8.2: Field: each field's type, and how many slots are ahead of it.
func TestField(t *testing.T) {
	tab := made(t, some+"struct wide { x pair; y box pair; z holds; w flat; v opt; }")
	for _, c := range []struct {
		typ, name, want string
		at              int
	}{
		{"pair", "a", "int", 0}, {"pair", "b", "opt", 1}, {"pair", "c", "box pair", 3}, {"pair", "d", "none", 4}, {"pair", "e", "int", 5},
		{"hk", "n", "int", 0}, {"two", "h", "hk", 0}, {"flat", "y", "none", 1}, {"flat", "z", "bare", 2}, {"holds", "x", "flat", 0}, {"holds", "y", "deep", 4}, {"holds", "z", "int", 6},
		{"wide", "x", "pair", 0}, {"wide", "y", "box pair", 6}, {"wide", "z", "holds", 7}, {"wide", "w", "flat", 14}, {"wide", "v", "opt", 18},
	} {
		wantPart(t, "Field", tab.Field, c.typ, c.name, c.want, c.at, true)
	}
	for _, typ := range []string{"none", "pair", "hk", "two", "flat", "both", "holds"} {
		for _, name := range []string{"", "zz", "A", "a ", "pair", "int", "*", "a.b", "\xff"} {
			wantPart(t, "Field", tab.Field, typ, name, "", 0, false)
		}
		wantNoParts(t, tab, typ, false, true)
	}
}

// P8.2: Variant: each variant's payload, if it has one, and its index.
func TestVariant(t *testing.T) {
	tab := made(t, some)
	for _, c := range []struct {
		typ, name, want string
		at              int
	}{
		{"opt", "u", "", 0}, {"opt", "v", "two", 1}, {"opt", "w", "int", 2}, {"opt", "x", "hk", 3},
		{"bare", "u", "", 0}, {"bare", "v", "int", 1}, {"bare", "w", "", 2}, {"deep", "u", "box deep", 0}, {"last", "w", "box int", 2},
	} {
		wantPart(t, "Variant", tab.Variant, c.typ, c.name, c.want, c.at, true)
	}
	for _, typ := range []string{"opt", "bare", "deep", "last"} {
		for _, name := range []string{"", "zz", "U", "u ", "opt", "int", "*", "\xff"} {
			wantPart(t, "Variant", tab.Variant, typ, name, "", 0, false)
		}
		wantNoParts(t, tab, typ, true, false)
	}
}

// P8.2: Struct and Enum: declarations as they stood in the program, At too.
func TestDeclarations(t *testing.T) {
	p := parsed(t, some)
	tab, _ := table.New(p)
	for i, s := range p.Structs {
		if got, ok := tab.Struct(s.Name); !ok || !reflect.DeepEqual(got, s) || got.At == 0 && i > 0 {
			t.Errorf("%+v %v, want %+v", got, ok, s)
		}
		if tab.Number(s.Name) != i {
			t.Error(s.Name, tab.Number(s.Name))
		}
	}
	for _, e := range p.Enums {
		if got, ok := tab.Enum(e.Name); !ok || !reflect.DeepEqual(got, e) || got.At == 0 {
			t.Errorf("%+v %v, want %+v", got, ok, e)
		}
	}
}

// P8.2 and rule 4: what is handed in is neither kept nor changed, what is answered is new memory, and so is what is behind its length.
func TestNewMemory(t *testing.T) {
	p, again := parsed(t, some), parsed(t, some)
	room := append(p.Structs[1].Fields, api.Var{Name: "spare"})
	p.Structs[1].Fields = room[:len(room)-1]
	tab, _ := table.New(p)
	if !reflect.DeepEqual(p, again) || room[len(room)-1].Name != "spare" {
		t.Error("what was handed in was changed")
	}
	for i := range p.Structs {
		clear(p.Structs[i].Fields)
	}
	for i := range p.Enums {
		clear(p.Enums[i].Variants)
	}
	clear(p.Structs)
	clear(p.Enums)
	for range 2 {
		for _, want := range again.Structs {
			got, _ := tab.Struct(want.Name)
			if !reflect.DeepEqual(got, want) {
				t.Fatalf("%+v, want %+v", got, want)
			}
			spoilVars(got.Fields)
		}
		for _, want := range again.Enums {
			got, _ := tab.Enum(want.Name)
			if !reflect.DeepEqual(got, want) {
				t.Fatalf("%+v, want %+v", got, want)
			}
			spoilVars(got.Variants)
		}
	}
	wantPart(t, "Field", tab.Field, "pair", "c", "box pair", 3, true)
	wantPart(t, "Variant", tab.Variant, "opt", "v", "two", 1, true)
	wantType(t, tab, "pair", want{known: true, slots: 6, drops: true, safe: true, number: 1})
}

// spoilVars: what may be written of a list is written.
func spoilVars(list []api.Var) {
	list = list[:cap(list)]
	for i := range list {
		list[i] = api.Var{Name: "spoilt", Type: "spoilt"}
	}
}

// P8.1 and rule 4: diagnostics are new memory, too.
func TestNewDiags(t *testing.T) {
	for _, text := range []string{"struct a { x a; } struct b { x b; }", "struct a { x zz; x zz; }"} {
		p := counted(t, text)
		_, first := table.New(p)
		before := told(first)
		for i := range first[:cap(first)] {
			first[:cap(first)][i] = api.Diag{At: -1, Code: -1}
		}
		if _, second := table.New(p); told(second) != before {
			t.Errorf("%q, then %q", before, told(second))
		}
	}
}

// P1: what New answers with diagnostics is a table without declarations.
func TestNoTable(t *testing.T) {
	tab, _ := table.New(parsed(t, "struct a { x a; }"))
	wantUnknown(t, tab, "a", "box a", "ref a", "zz", "")
	wantType(t, tab, "int", want{known: true, slots: 1, copied: true, number: -1})
	wantUnknown(t, new(table.Table), "a", "box a", "ref a", "zz", "")
}

// P1 and P8.2: any bytes are asked for, and nothing is known of them but by chance.
func TestAnyBytes(t *testing.T) {
	tab := made(t, some)
	r := rand.New(rand.NewSource(8))
	for range 20000 {
		b := make([]byte, r.Intn(12))
		r.Read(b)
		text := string(b)
		if tab.Known(text) {
			continue
		}
		wantUnknown(t, tab, text, "box "+text, "ref "+text)
		for _, typ := range []string{"pair", "opt"} {
			if len(text) != 1 {
				wantPart(t, "Field", tab.Field, typ, text, "", 0, false)
				wantPart(t, "Variant", tab.Variant, typ, text, "", 0, false)
			}
		}
	}
}
