package tree_test

import (
	"fmt"
	"math"
	"math/rand"
	"reflect"
	"regexp"
	"slices"
	"strings"
	"testing"

	"drogue/api"
	"drogue/tree"
)

// The model writes a program down in one line a thing, and holds that against the chapter's shapes: an @ stands for a name, a P for a place, a ! for what is neither and isn't nothing.
var (
	nameShape  = regexp.MustCompile(`\A[a-z][a-z0-9_]{0,15}\z`)
	typeShape  = regexp.MustCompile(`\A(ref |mut )?(box ){0,8}([a-z][a-z0-9_]{0,15})\z`)
	stmtShapes = []string{
		`1 to:P n:ok name: variant: args:`, `[234] to:P n:0 name: variant: args:PP`, `(5|6|9|10) to:P n:0 name: variant: args:P`,
		`7 to:P n:0 name:@ variant: args:P{0,16}`, `8 to:P n:0 name:@ variant:@ args:P?`, `11 to: n:0 name: variant: args:P`,
	}
	termShapes = []string{
		`[14] to: name: args: blocks:@ arms:`, `2 to: name: args:P blocks:@@ arms:`, `3 to: name: args:P blocks: arms:(@@?:@,){1,16}`,
		`[56] to:P name:@ args:P{0,16} blocks:@ arms:`, `7 to: name: args:P blocks: arms:`,
	}
	stmtShape = regexp.MustCompile(`\A(` + strings.Join(stmtShapes, `|`) + `)\z`)
	termShape = regexp.MustCompile(`\A(` + strings.Join(termShapes, `|`) + `)\z`)
)

func isWord(s string) bool { return slices.Contains(strings.Fields(words), s) }

func writeName(s string) string {
	switch {
	case s == "":
		return ""
	case nameShape.MatchString(s) && !isWord(s):
		return "@"
	}
	return "!"
}

func writePlace(p api.Place) string {
	if p.Local == "" && len(p.Steps) == 0 {
		return ""
	}
	for i, s := range append([]string{p.Local}, p.Steps...) {
		if writeName(s) != "@" && (s != "*" || i == 0) || i > 8 {
			return "!"
		}
	}
	return "P"
}

// writeAll: of each thing in a list, with a ? for what is nothing.
func writeAll[T any](list []T, write func(T) string) string {
	text := ""
	for _, x := range list {
		if s := write(x); s == "" {
			text += "?"
		} else {
			text += s
		}
	}
	return text
}

func writeNumber(n int64) string {
	switch {
	case n == 0:
		return "0"
	case float64(n) >= -math.Exp2(40) && float64(n) <= math.Exp2(40):
		return "ok"
	}
	return "!"
}

func modelStmt(s api.Stmt) bool {
	n := writeNumber(s.N)
	if n == "0" && s.Kind == 1 {
		n = "ok"
	}
	return stmtShape.MatchString(fmt.Sprintf("%d to:%s n:%s name:%s variant:%s args:%s", s.Kind, writePlace(s.To), n, writeName(s.Name), writeName(s.Variant), writeAll(s.Args, writePlace)))
}

func modelTerm(e api.Term) bool {
	arm := func(a api.Arm) string {
		return writeName(a.Variant) + writeName(a.Local) + ":" + writeName(a.Block) + ","
	}
	// An arm without a variant, but with a local, would be written like one without a local.
	for _, a := range e.Arms {
		if a.Variant == "" {
			return false
		}
	}
	return termShape.MatchString(fmt.Sprintf("%d to:%s name:%s args:%s blocks:%s arms:%s", e.Kind, writePlace(e.To), writeName(e.Name), writeAll(e.Args, writePlace), writeAll(e.Blocks, writeName), writeAll(e.Arms, arm)))
}

// modelVars: so many, with names and types, of which those that are lent, or of no byte, may be or not.
func modelVars(list []api.Var, least, most int, lent, empty bool) bool {
	for _, v := range list {
		found := typeShape.FindStringSubmatch(v.Type)
		fits := found != nil && (found[3] == "int" || !isWord(found[3])) && (lent || found[1] == "")
		if writeName(v.Name) != "@" || !fits && !(empty && v.Type == "") {
			return false
		}
	}
	return len(list) >= least && len(list) <= most
}

func modelFunc(f api.Func) bool {
	ok := modelVars(f.Params, 0, 16, true, false) && modelVars(slices.Concat(f.Params, f.Locals), 0, 24, true, false) && modelVars([]api.Var{{Name: f.Name, Type: f.Result}}, 1, 1, false, false)
	for _, b := range f.Blocks {
		ok = ok && writeName(b.Name) == "@" && len(b.Stmts) <= 64 && modelTerm(b.Term)
		for _, s := range b.Stmts {
			ok = ok && modelStmt(s)
		}
	}
	return ok && len(f.Blocks) >= 1 && len(f.Blocks) <= 64
}

func modelRight(p api.Prog) bool {
	ok := len(p.Structs) <= 16 && len(p.Enums) <= 16 && len(p.Funcs) <= 16
	for _, s := range p.Structs {
		ok = ok && writeName(s.Name) == "@" && modelVars(s.Fields, 0, 16, false, false)
	}
	for _, e := range p.Enums {
		ok = ok && writeName(e.Name) == "@" && modelVars(e.Variants, 1, 16, false, true)
	}
	for _, f := range p.Funcs {
		ok = ok && modelFunc(f)
	}
	return ok
}

// modelUses: the places of a function, as texts.
func modelUses(f api.Func) []string {
	var list []string
	add := func(args []api.Place, to api.Place) {
		for _, p := range args {
			list = append(list, strings.Join(append([]string{p.Local}, p.Steps...), "."))
		}
		if to.Local != "" {
			list = append(list, strings.Join(append([]string{to.Local}, to.Steps...), "."))
		}
	}
	for _, b := range f.Blocks {
		for _, s := range b.Stmts {
			add(s.Args, s.To)
		}
		add(b.Term.Args, b.Term.To)
	}
	return list
}

var (
	someNames = []string{"a", "b", "c", "x", "y", "x1", "abcdefghijklmnop"}
	someTypes = []string{"int", "a", "box int", "box box b", strings.Repeat("box ", 8) + "c"}
	someLent  = append([]string{"ref int", "mut a", "ref box b"}, someTypes...)
	oddTexts  = []string{"", "", "fn", "box", "*", "A", "a.b", " ", "ref int", "box int", "int", "abcdefghijklmnopq", "\x00", "\xff", "box ref a", "a"}
	oddInts   = []int64{0, 1, 2, 5, 7, 8, 11, 12, -1, 1 << 40, 1<<40 + 1, -1 << 40, -1<<40 - 1, math.MaxInt64, math.MinInt64}
)

func pick[T any](r *rand.Rand, list []T) T { return list[r.Intn(len(list))] }

// row: up to so many of what is made.
func row[T any](r *rand.Rand, least, most int, made func() T) []T {
	var list []T
	for range least + r.Intn(most-least+1) {
		list = append(list, made())
	}
	return list
}

func someProg(r *rand.Rand) api.Prog {
	name := func() string { return pick(r, someNames) }
	plain := func() api.Var { return api.Var{Name: name(), Type: pick(r, someTypes)} }
	lent := func() api.Var { return api.Var{Name: name(), Type: pick(r, someLent)} }
	place := func() api.Place {
		return api.Place{Local: name(), Steps: row(r, 0, 3, func() string { return pick(r, []string{"*", name()}) })}
	}
	stmt := func() api.Stmt {
		s := api.Stmt{At: r.Int(), Kind: 1 + r.Intn(11), To: place()}
		switch has := stmtHas[s.Kind]; {
		case s.Kind == api.SNum:
			s.N = pick(r, []int64{0, 5, 1 << 40, -1 << 40})
		default:
			s.Args = row(r, has.least, has.most, place)
			if s.Kind == api.SOut {
				s.To = api.Place{}
			}
			if strings.Contains(has.parts, "name") {
				s.Name = name()
			}
			if strings.Contains(has.parts, "variant") {
				s.Variant = name()
			}
		}
		return s
	}
	term := func() api.Term {
		e := api.Term{At: -r.Int(), Kind: 1 + r.Intn(7)}
		has := termHas[e.Kind]
		e.Args, e.Blocks = row(r, has.argsLeast, has.argMost, place), row(r, has.blocks, has.blocks, name)
		e.Arms = row(r, has.armsLeast, has.armMost, func() api.Arm { return api.Arm{Variant: name(), Local: pick(r, []string{"", name()}), Block: name()} })
		if has.parts != "" {
			e.To, e.Name = place(), name()
		}
		return e
	}
	block := func() api.Block { return api.Block{At: r.Int(), Name: name(), Stmts: row(r, 0, 4, stmt), Term: term()} }
	return api.Prog{
		Structs: row(r, 0, 3, func() api.Struct {
			return api.Struct{At: r.Int(), Name: name(), Safe: r.Intn(2) == 0, Hook: r.Intn(2) == 0, Fields: row(r, 0, 3, plain)}
		}),
		Enums: row(r, 0, 3, func() api.Enum {
			return api.Enum{At: r.Int(), Name: name(), Variants: append(row(r, 1, 3, plain), api.Var{Name: name()})}
		}),
		Funcs: row(r, 0, 3, func() api.Func {
			return api.Func{At: r.Int(), Name: name(), Params: row(r, 0, 3, lent), Locals: row(r, 0, 3, lent), Result: pick(r, someTypes), Blocks: row(r, 1, 3, block)}
		}),
	}
}

// spoil: some part of a program becomes another one, or nearly so.
func spoil(r *rand.Rand, p *api.Prog) {
	list := partsOf(p)
	switch x := pick(r, list).value; x.Kind() {
	case reflect.String:
		x.SetString(pick(r, oddTexts))
	case reflect.Bool:
		x.SetBool(!x.Bool())
	case reflect.Slice:
		if n := x.Len(); n > 0 && r.Intn(2) == 0 {
			x.SetLen(r.Intn(n))
		} else {
			one := reflect.Zero(x.Type().Elem())
			if n > 0 {
				one = x.Index(n - 1)
			}
			for range pick(r, []int{1, 1, 2, 16, 17, 64}) {
				x.Set(reflect.Append(x, one))
			}
		}
	default:
		x.SetInt(pick(r, oddInts))
	}
}

// P5.1 and P5.2, beside a plain model: programs that are shaped, and those that are no more, or still are.
func TestModel(t *testing.T) {
	r := rand.New(rand.NewSource(5))
	right, wrong := 0, 0
	for range 2000 {
		p := someProg(r)
		if !tree.Right(p) || !modelRight(p) {
			t.Fatalf("Right, and the model's: %v %v: %+v", tree.Right(p), modelRight(p), p)
		}
		before := tree.Clone(p)
		wantAlike(t, "Clone", before, p)
		spoil(r, &p)
		want := modelRight(p)
		if tree.Right(p) != want {
			t.Fatalf("Right: %v: %+v", !want, p)
		}
		if want {
			right++
		} else {
			wrong++
		}
		c := tree.Clone(p)
		if same := tree.Same(before, p); same != modelSame(before, p) || !tree.Same(p, c) {
			t.Fatalf("Same: %v: %+v and %+v", same, before, p)
		}
		for _, f := range p.Funcs {
			if got, want := texts(tree.Uses(f)), modelUses(f); !slices.Equal(got, want) {
				t.Fatalf("Uses: %q, want %q", got, want)
			}
		}
	}
	if right < 300 || wrong < 300 {
		t.Error("too few programs are shaped, or aren't:", right, wrong)
	}
}

// modelSame: what two programs are, written down part by part without At.
func modelSame(a, b api.Prog) bool {
	write := func(p api.Prog) string {
		var text strings.Builder
		for _, x := range partsOf(&p) {
			switch {
			case x.at:
			case x.value.Kind() == reflect.Slice:
				fmt.Fprintf(&text, "%s %d;", x.name, x.value.Len())
			default:
				fmt.Fprintf(&text, "%s %#v;", x.name, x.value)
			}
		}
		return text.String()
	}
	return write(a) == write(b)
}

// P5.1, beside a plain model: texts that are places, and nearly so, and Front.
func TestPlaceModel(t *testing.T) {
	r := rand.New(rand.NewSource(55))
	pieces := []string{".", ".", ".", ".", "*", "a", "x", "ab", "fn", "box", "_", "1", "A", " ", "\xff", "..", ".a", ".*", "abcdefghijklmnop"}
	found := 0
	var list []api.Place
	for range 40000 {
		text := pick(r, someNames) + strings.Join(row(r, 0, 10, func() string { return pick(r, []string{".a", ".*", ".x", ".b"}) }), "")
		if r.Intn(2) == 0 {
			text = strings.Join(row(r, 0, 8, func() string { return pick(r, pieces) }), "")
		}
		parts := strings.Split(text, ".")
		want := writePlace(place(parts[0], parts[1:]...)) == "P"
		got, ok := tree.Place(text)
		if ok != want || ok && tree.Text(got) != text || !ok && (got.Local != "" || got.Steps != nil && len(got.Steps) > 0) {
			t.Fatalf("Place(%q): %q %v", text, got, ok)
		}
		if ok {
			found++
			list = append(list, got)
		}
	}
	if found < 5000 || found > 35000 {
		t.Error("too few, or too many, texts are places:", found)
	}
	for range 40000 {
		a, b := pick(r, list[:300]), pick(r, list[:300])
		if r.Intn(2) == 0 {
			a = place(b.Local, b.Steps[:r.Intn(len(b.Steps)+1)]...)
		}
		// With a point behind each, a place's beginning is its text's.
		x, y := tree.Text(a)+".", tree.Text(b)+"."
		if tree.Front(a, b) != strings.HasPrefix(y, x) || tree.Equal(a, b) != (x == y) {
			t.Fatal(x, y)
		}
	}
}

// someBytes: any bytes.
func someBytes(r *rand.Rand) string {
	b := make([]byte, r.Intn(30))
	r.Read(b)
	return string(b)
}

// P1: no call panics, whatever it is handed: programs with any bytes and any numbers in them.
func TestAnyArguments(t *testing.T) {
	r := rand.New(rand.NewSource(555))
	for range 2000 {
		p := someProg(r)
		for _, x := range partsOf(&p) {
			switch {
			case x.value.Kind() == reflect.String && r.Intn(4) == 0:
				x.value.SetString(someBytes(r))
			case x.value.CanInt():
				x.value.SetInt(pick(r, oddInts))
			case x.value.Kind() == reflect.Slice && r.Intn(8) == 0:
				x.value.SetZero()
			}
		}
		if tree.Right(p) != modelRight(p) || !tree.Same(p, tree.Clone(p)) {
			t.Fatalf("%+v", p)
		}
		name := someBytes(r)
		for _, f := range p.Funcs {
			var seen []api.Place
			for x := range tree.Uses(f) {
				seen = append(seen, x)
				tree.Text(x)
				tree.Place(tree.Text(x))
				tree.Front(x, seen[0])
				tree.Front(seen[0], x)
			}
			if len(seen) != len(modelUses(f)) || len(tree.Vars(f)) != len(f.Params)+len(f.Locals) || tree.Find(tree.Vars(f), name+"~") != -1 || tree.Block(f, name+"~") != -1 {
				t.Fatalf("%+v", f)
			}
		}
		tree.Place(name)
	}
}
