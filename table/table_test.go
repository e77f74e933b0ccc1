package table_test

import (
	"fmt"
	"math"
	"slices"
	"strings"
	"testing"

	"drogue/api"
	"drogue/parse"
	"drogue/table"
)

// parsed: the program of a text.
func parsed(t *testing.T, text string) api.Prog {
	t.Helper()
	p, diags := parse.Parse(text)
	if len(diags) != 0 {
		t.Fatalf("%v of %q", diags, text)
	}
	return p
}

// counted: the program of a text, of which the structs, then the enums, have 0, 1, 2 and so on as their At.
func counted(t *testing.T, text string) api.Prog {
	t.Helper()
	p := parsed(t, text)
	for i := range p.Structs {
		p.Structs[i].At = i
	}
	for i := range p.Enums {
		p.Enums[i].At = len(p.Structs) + i
	}
	return p
}

// told: diagnostics as words.
func told(diags []api.Diag) string {
	var list []string
	for _, d := range diags {
		word := fmt.Sprint(d.Code)
		switch d.Code {
		case api.DSyntax:
			word = "syntax"
		case api.DTwice:
			word = "twice"
		case api.DName:
			word = "name"
		case api.DSize:
			word = "size"
		}
		list = append(list, fmt.Sprint(d.At, " ", word))
	}
	return strings.Join(list, ", ")
}

func wantDiags(t *testing.T, text, want string) {
	t.Helper()
	tab, diags := table.New(counted(t, text))
	if got := told(diags); got != want {
		t.Errorf("%q of %q, want %q", got, text, want)
	}
	if (tab == nil) != (want != "") {
		t.Errorf("a table: %v, of %q, want diagnostics %q", tab != nil, text, want)
	}
}

// made: the table of a text without diagnostics.
func made(t *testing.T, text string) *table.Table {
	t.Helper()
	tab, diags := table.New(parsed(t, text))
	if len(diags) != 0 || tab == nil {
		t.Fatalf("%v of %q", diags, text)
	}
	return tab
}

// boxes: so many boxes in front of a text.
func boxes(n int, t string) string { return strings.Repeat("box ", n) + t }

// fields: so many fields, or variants, of a type.
func fields(n int, typ string) string {
	text := ""
	for i := range n {
		text += fmt.Sprintf("f%d %s;", i, typ)
	}
	return text
}

// P8.1: declarations that are sound, and not too great.
func TestSound(t *testing.T) {
	for _, text := range []string{
		"", "struct a { }", "enum a { b; }", "struct pair { a int; b box pair; }",
		"struct a { a int; b int; } enum c { c; a int; }", "struct a { x int; } struct b { x int; } enum c { x; } enum d { x int; }",
		"struct a { x b; y c; } struct b { } enum c { u; v b; }", "enum c { u; v b; } struct a { x b; y c; } struct b { }",
		"struct a { x box a; y box box a; }", "enum a { x box a; y " + boxes(8, "a") + "; }",
		"struct a { x box b; } struct b { x box a; }", "struct a { x b; } enum b { u box a; v box b; }",
		"struct a { x int; y int; } enum e { u int; v int; w int; }",
		// What functions are named, and whether what they name is known, isn't asked.
		"struct a { } enum b { c; } fn a() zz { let x yy; let x xx; b: x = use q; goto d; } fn a() int { b: return x; } fn b() int { b: return x; }",
	} {
		wantDiags(t, text, "")
	}
}

// P8.1: a name that an earlier declaration has: each one behind the first is told, structs ahead of enums.
func TestTwice(t *testing.T) {
	for text, want := range map[string]string{
		"struct a { } struct a { }":                                          "1 twice",
		"struct a { } struct b { } struct a { }":                             "2 twice",
		"struct a { } struct a { } struct a { } struct b { } struct b { }":   "1 twice, 2 twice, 4 twice",
		"enum a { b; } enum a { b; }":                                        "1 twice",
		"enum a { b; } enum c { b; } enum a { b; }":                          "2 twice",
		"struct a { } enum a { b; }":                                         "1 twice",
		"enum a { b; } struct a { }":                                         "1 twice",
		"enum a { b; } struct c { } struct a { } enum c { b; }":              "2 twice, 3 twice",
		"struct a { x int; } struct a { x int; x int; } enum a { b; b; b; }": "1 twice, 1 twice, 2 twice, 2 twice, 2 twice",
	} {
		wantDiags(t, text, want)
	}
	wantDiags(t, strings.Repeat("struct a { }", 16)+strings.Repeat("enum a { b; }", 16), strings.TrimPrefix(strings.Join(behind(31), ""), ", "))
}

// behind: the words of so many declarations, behind the first one, whose name is its.
func behind(n int) []string {
	var list []string
	for i := range n {
		list = append(list, fmt.Sprintf(", %d twice", i+1))
	}
	return list
}

// P8.1: a field's (a variant's) name that an earlier one of its declaration has.
func TestTwiceWithin(t *testing.T) {
	for text, want := range map[string]string{
		"struct a { x int; x int; }":                                      "0 twice",
		"struct a { x int; y int; x box int; x a; }":                      "0 twice, 0 twice",
		"struct a { x int; y int; x int; y int; y int; }":                 "0 twice, 0 twice, 0 twice",
		"enum a { x; x; }":                                                "0 twice",
		"enum a { x; y; x int; }":                                         "0 twice",
		"struct a { x int; } struct b { x int; x int; } enum c { u; u; }": "1 twice, 2 twice",
	} {
		wantDiags(t, text, want)
	}
	wantDiags(t, "struct a {"+strings.Repeat("x int;", 16)+"}", strings.TrimPrefix(strings.Repeat(", 0 twice", 15), ", "))
}

// P8.1: a type whose base isn't known, in a field and in a payload, behind boxes too; what else has that name doesn't count.
func TestName(t *testing.T) {
	for text, want := range map[string]string{
		"struct a { x zz; }":                                         "0 name",
		"struct a { x box zz; }":                                     "0 name",
		"struct a { x " + boxes(8, "zz") + "; }":                     "0 name",
		"enum a { x zz; }":                                           "0 name",
		"enum a { u; x box zz; v; }":                                 "0 name",
		"struct a { x zz; y int; z box yy; }":                        "0 name, 0 name",
		"struct a { x int; } struct b { x zz; } enum c { u; v zz; }": "1 name, 2 name",
		"struct a { x x; }":                                          "0 name",
		"struct a { x int; y x; }":                                   "0 name",
		"enum a { u; v u; }":                                         "0 name",
		"struct a { x f; y main; } fn f() int { b: return x; } fn main() int { b: return x; }": "0 name, 0 name",
		"struct a { x aa; y ab; } struct aaa { }":                                              "0 name, 0 name",
	} {
		wantDiags(t, text, want)
	}
}

// P8.1: of one declaration its own name first, then field by field: first that its name is there already, then that its type isn't known.
func TestOrder(t *testing.T) {
	for text, want := range map[string]string{
		"struct a { x zz; x zz; y zz; x int; }":                                          "0 name, 0 twice, 0 name, 0 name, 0 twice",
		"enum a { x; x zz; y zz; x; }":                                                   "0 twice, 0 name, 0 name, 0 twice",
		"struct a { } struct a { x zz; x int; }":                                         "1 twice, 1 name, 1 twice",
		"struct a { x zz; } struct a { x int; x int; } enum a { u zz; u zz; }":           "0 name, 1 twice, 1 twice, 2 twice, 2 name, 2 twice, 2 name",
		"enum b { u zz; } struct b { x yy; }":                                            "0 name, 1 twice, 1 name",
		"struct a { x b; } struct b { x int; x c; } struct c { x zz; } enum d { u; u; }": "1 twice, 2 name, 3 twice",
	} {
		wantDiags(t, text, want)
	}
}

// P8.1: DSize only if there is nothing else.
func TestSizeAlone(t *testing.T) {
	for text, want := range map[string]string{
		"struct a { x a; }":                                "0 size",
		"struct a { x a; x int; }":                         "0 twice",
		"struct a { x a; } struct b { y zz; }":             "1 name",
		"struct a { x a; } struct a { }":                   "1 twice",
		"struct a { x b; } struct b { y zz; z a; }":        "1 name",
		"enum a { u a; } enum a { u a; } enum b { u; u; }": "1 twice, 2 twice",
	} {
		wantDiags(t, text, want)
	}
}

// P8.1: what has itself within, whatever the way, has no end, and what has such a one within has none either; a box between ends it.
func TestEndless(t *testing.T) {
	for text, want := range map[string]string{
		"struct a { x a; }":                                                           "0 size",
		"enum a { u a; }":                                                             "0 size",
		"enum a { u; v int; w a; }":                                                   "0 size",
		"struct a { x int; y box a; z a; }":                                           "0 size",
		"struct a { x b; } struct b { x a; }":                                         "0 size, 1 size",
		"struct a { x b; } enum b { u; v a; }":                                        "0 size, 1 size",
		"struct a { x b; } struct b { x c; } struct c { x a; }":                       "0 size, 1 size, 2 size",
		"struct a { x b; } struct b { x b; } struct c { y int; }":                     "0 size, 1 size",
		"struct a { x int; } struct b { x c; } struct c { x b; } struct d { x b; }":   "1 size, 2 size, 3 size",
		"struct d { x c; } struct c { x b; } struct b { x b; } struct a { x box d; }": "0 size, 1 size, 2 size",
		"struct a { x box b; } struct b { x b; } enum c { u box b; v int; }":          "1 size",
		"struct a { x b; y c; } struct b { x int; } struct c { x c; }":                "0 size, 2 size",
		"struct a { x b; } struct b { x box c; } struct c { x a; }":                   "",
		"enum a { u b; v c; } enum b { u c; v a; } struct c { x box a; }":             "1 size, 2 size",
		"enum a { u b; } enum b { u c; } enum c { u a; } enum d { u box a; }":         "0 size, 1 size, 2 size",
	} {
		wantDiags(t, text, want)
	}
}

// P8.1: 32 slots are not too great, 33 are; of structs and of enums.
func TestGreat(t *testing.T) {
	half := "struct h {" + fields(16, "int") + "}"
	for text, want := range map[string]string{
		half + "struct a { x h; y h; }":                                                                                  "",
		half + "struct a { x h; y h; z int; }":                                                                           "1 size",
		half + "struct a { x h; y h; z box a; }":                                                                         "1 size",
		half + "struct a { z int; x h; y h; }":                                                                           "1 size",
		half + "struct a {" + fields(15, "int") + "x h; }":                                                               "",
		half + "struct a {" + fields(15, "h") + "}":                                                                      "1 size",
		half + "struct e { } struct a { x h; " + fields(14, "int") + "y e; }":                                            "",
		half + "struct e { } struct g { x e; } struct a { x h; y h; z g; }":                                              "3 size",
		half + "enum a { u h; v h; w int; }":                                                                             "",
		half + "struct a {" + fields(15, "int") + "x h; } enum b { u; v a; }":                                            "",
		half + "struct a { x h; y h; } enum b { u; v a; }":                                                               "2 size",
		half + "struct a { x h; y h; } enum b { v a; u; }":                                                               "2 size",
		half + "struct a { x h; y h; } enum b { u box a; v h; }":                                                         "",
		half + "enum b { u h; } struct a { x h; y b; }":                                                                  "1 size",
		half + "enum b { u h; } struct a { x b; " + fields(15, "int") + "}":                                              "",
		half + "struct b { x h; y h; z int; } struct c { x b; } enum d { u c; } struct a { x box b; y box c; z box d; }": "1 size, 2 size, 4 size",
		half + "struct b { x h; y c; } struct c { x h; y h; } struct d { x c; }":                                         "1 size",
	} {
		wantDiags(t, text, want)
	}
	// A row of enums, each with the next one as its payload: 1 more slot each.
	row := ""
	for i := range 15 {
		row += fmt.Sprintf("enum e%d { u; v e%d; }", i, i+1)
	}
	wantDiags(t, half+row+"enum e15 { u h; }", "")
	wantDiags(t, "struct g { x h; y int; }"+half+row+"enum e15 { u g; }", "2 size")
}

// P8.1 and P1: sums that no number of 64 bits can hold are too great, and ways through the declarations that are too many to go take no time.
func TestManyWays(t *testing.T) {
	var text, want strings.Builder
	for i := range 15 {
		fmt.Fprintf(&text, "struct s%d {%s}", i, fields(16, fmt.Sprintf("s%d", i+1)))
		fmt.Fprintf(&want, ", %d size", i)
	}
	text.WriteString("struct s15 {" + fields(16, "int") + "}")
	wantDiags(t, text.String(), strings.TrimPrefix(want.String(), ", "))
	text.Reset()
	for i := range 15 {
		fmt.Fprintf(&text, "enum e%d {%s}", i, fields(16, fmt.Sprintf("e%d", i+1)))
	}
	ways := text.String()
	wantDiags(t, ways+"enum e15 {"+fields(16, "e0")+"}", strings.TrimPrefix(strings.ReplaceAll(", 0 twice"+strings.Join(behind(15), ""), "twice", "size"), ", "))
	for last, drops := range map[string]bool{"int": false, "box e0": true} {
		tab := made(t, ways+"enum e15 {"+fields(16, last)+"}")
		if tab.Slots("e0") != 17 || tab.Slots("e15") != 2 || tab.Drops("e0") != drops {
			t.Error(last, tab.Slots("e0"), tab.Slots("e15"), tab.Drops("e0"))
		}
	}
}

// P8.1: a program that isn't shaped, in whatever part, whatever its At, and whatever else is wrong with it: nil, and DSyntax at 0.
func TestNotShaped(t *testing.T) {
	one := []api.Var{{Name: "x", Type: "int"}}
	many := make([]api.Var, 17)
	for i := range many {
		many[i] = api.Var{Name: fmt.Sprint("f", i), Type: "int"}
	}
	twice := api.Struct{At: 7, Name: "t", Fields: []api.Var{{Name: "x", Type: "t"}, {Name: "x", Type: "zz"}}}
	for i, p := range []api.Prog{
		{Structs: []api.Struct{{At: 5}}},
		{Structs: []api.Struct{{At: 5, Name: "A"}}},
		{Structs: []api.Struct{{At: 5, Name: "fn"}}},
		{Structs: []api.Struct{{At: 5, Name: "a", Fields: []api.Var{{Name: "x"}}}}},
		{Structs: []api.Struct{{At: 5, Name: "a", Fields: []api.Var{{Name: "x", Type: "ref int"}}}}},
		{Structs: []api.Struct{{At: 5, Name: "a", Fields: []api.Var{{Name: "", Type: "int"}}}}},
		{Structs: []api.Struct{{At: 5, Name: "a", Fields: many}}},
		{Structs: slices.Repeat([]api.Struct{{Name: "a"}}, 17)},
		{Structs: []api.Struct{twice, twice, {Name: "a", Fields: []api.Var{{Name: "x", Type: boxes(9, "int")}}}}},
		{Enums: []api.Enum{{At: 5, Name: "a"}}},
		{Enums: []api.Enum{{At: 5, Name: "", Variants: one}}},
		{Enums: []api.Enum{{At: 5, Name: "a", Variants: many}}},
		{Enums: []api.Enum{{At: 5, Name: "a", Variants: []api.Var{{Name: "x", Type: "mut a"}}}}},
		{Enums: slices.Repeat([]api.Enum{{Name: "a", Variants: one}}, 17)},
		{Structs: []api.Struct{{Name: "a"}}, Funcs: []api.Func{{At: 5, Name: "f", Result: "int"}}},
		{Structs: []api.Struct{twice}, Funcs: []api.Func{{}}},
		{Structs: []api.Struct{{At: -5, Name: "\xff"}}, Enums: []api.Enum{{Name: "\x00"}}},
	} {
		tab, diags := table.New(p)
		if tab != nil || !slices.Equal(diags, []api.Diag{{At: 0, Code: api.DSyntax}}) {
			t.Error(i, tab, diags)
		}
	}
}

// P8.1: a diagnostic stands at its declaration's At, whatever number that is.
func TestAt(t *testing.T) {
	text := "enum e { u; v zz; } struct a { x int; x int; } fn f() int { b: return x; } struct e { }"
	if _, diags := table.New(parsed(t, text)); !slices.Equal(diags, []api.Diag{
		{At: strings.Index(text, "struct a"), Code: api.DTwice}, {At: 0, Code: api.DTwice}, {At: 0, Code: api.DName},
	}) {
		t.Error(diags)
	}
	p := parsed(t, "struct a { x a; } struct b { x int; } enum c { u a; }")
	p.Structs[0].At, p.Structs[1].At, p.Enums[0].At = math.MaxInt, 3, math.MinInt
	if _, diags := table.New(p); !slices.Equal(diags, []api.Diag{{At: math.MaxInt, Code: api.DSize}, {At: math.MinInt, Code: api.DSize}}) {
		t.Error(diags)
	}
}
