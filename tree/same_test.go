package tree_test

import (
	"math"
	"reflect"
	"slices"
	"testing"

	"drogue/api"
	"drogue/tree"
)

// part is a number, a text, a bool or a list in a program; at: is it a place in the text?
type part struct {
	name  string
	value reflect.Value
	at    bool
}

// partsOf: all parts of a program, each list ahead of what is in it. Asked of two programs that are the same, it answers the same parts, in the same order.
func partsOf(p *api.Prog) []part {
	var list []part
	var walk func(name string, v reflect.Value)
	walk = func(name string, v reflect.Value) {
		switch v.Kind() {
		case reflect.Struct:
			for i := range v.NumField() {
				walk(name+"."+v.Type().Field(i).Name, v.Field(i))
			}
		case reflect.Slice:
			list = append(list, part{name, v, false})
			for i := range v.Len() {
				walk(name+"[]", v.Index(i))
			}
		default:
			list = append(list, part{name, v, name[max(0, len(name)-3):] == ".At"})
		}
	}
	walk("", reflect.ValueOf(p).Elem())
	return list
}

// changes: what may be done to a part, so that it is another one.
func changes(v reflect.Value) []func(v reflect.Value) {
	switch v.Kind() {
	case reflect.Bool:
		return []func(reflect.Value){func(v reflect.Value) { v.SetBool(!v.Bool()) }}
	case reflect.String:
		list := []func(reflect.Value){func(v reflect.Value) { v.SetString(v.String() + "x") }}
		if v.Len() > 0 {
			list = append(list, func(v reflect.Value) { v.SetString("") }, func(v reflect.Value) { v.SetString(v.String()[1:]) }, func(v reflect.Value) { v.SetString("~" + v.String()[1:]) })
		}
		return list
	case reflect.Slice:
		more := func(v reflect.Value) {
			v.Set(reflect.Append(v.Slice3(0, v.Len(), v.Len()), reflect.Zero(v.Type().Elem())))
		}
		list := []func(reflect.Value){more}
		if v.Len() > 0 {
			list = append(list,
				func(v reflect.Value) { v.SetLen(v.Len() - 1) },
				func(v reflect.Value) { v.Set(v.Slice(1, v.Len())) },
				func(v reflect.Value) { v.SetLen(0) },
				func(v reflect.Value) { v.Set(reflect.Append(v.Slice3(0, v.Len(), v.Len()), v.Index(v.Len()-1))) })
		}
		return list
	}
	return []func(reflect.Value){
		func(v reflect.Value) { v.SetInt(v.Int() + 1) },
		func(v reflect.Value) { v.SetInt(v.Int() - 1<<40) },
		func(v reflect.Value) { v.SetInt(v.Int() + 1<<32) },
		func(v reflect.Value) { v.SetInt(math.MinInt64) },
		func(v reflect.Value) { v.SetInt(math.MaxInt64) },
	}
}

// numbered: the full program with unlike places in its text.
func numbered() api.Prog {
	p := full()
	for i, x := range partsOf(&p) {
		if x.at {
			x.value.SetInt(int64(1000 + i))
		}
	}
	return p
}

// P5.2, Same: programs that differ in one part alone, whichever, aren't the same; those that differ in At alone are.
func TestSame(t *testing.T) {
	p, q := numbered(), numbered()
	if !tree.Same(p, q) || !tree.Same(p, p) {
		t.Fatal("the same aren't")
	}
	ats, others := 0, 0
	for i, x := range partsOf(&p) {
		for j, change := range changes(x.value) {
			q := numbered()
			change(partsOf(&q)[i].value)
			if got := tree.Same(p, q); got != x.at || tree.Same(q, p) != got || !tree.Same(q, q) {
				t.Errorf("%s, change %d: %v", x.name, j, got)
			}
			if x.at {
				ats++
			} else {
				others++
			}
		}
	}
	// 2 structs, an enum, 2 functions, 8 blocks, 11 statements and 8 ends have an At.
	if ats != 5*(2+1+2+8+11+8) || others < 500 {
		t.Error(ats, others)
	}
}

// P5.2, Same: places in the text alone.
func TestSameAt(t *testing.T) {
	if p, q := full(), numbered(); !tree.Same(p, q) || !tree.Same(q, p) {
		t.Error("unlike in At alone")
	}
	p, q := numbered(), numbered()
	for _, x := range partsOf(&q) {
		if x.at {
			x.value.SetInt(math.MinInt64)
		}
	}
	if !tree.Same(p, q) {
		t.Error("unlike in At alone")
	}
	q.Funcs[1].Name += "x"
	if tree.Same(p, q) {
		t.Error("unlike in At, and in a name")
	}
}

// P5.2, Same: a nil list and an empty one are the same; what isn't shaped is held against others alike.
func TestSameEmpty(t *testing.T) {
	if !tree.Same(api.Prog{}, api.Prog{Structs: []api.Struct{}, Enums: []api.Enum{}, Funcs: []api.Func{}}) || tree.Same(api.Prog{}, full()) || tree.Same(full(), api.Prog{}) {
		t.Error("the empty one")
	}
	p, q := numbered(), numbered()
	for _, x := range partsOf(&q) {
		if x.value.Kind() == reflect.Slice && x.value.Len() == 0 {
			x.value.Set(reflect.MakeSlice(x.value.Type(), 0, 3))
		}
	}
	if !tree.Same(p, q) || !tree.Same(q, p) {
		t.Error("empty lists, for nil ones")
	}
	odd := func(kind int, to api.Place) api.Prog {
		return api.Prog{Funcs: []api.Func{{}, {Blocks: []api.Block{{Stmts: []api.Stmt{{Kind: kind, To: to}}}}}}}
	}
	if !tree.Same(odd(-9, place("", "")), odd(-9, place("", ""))) || tree.Same(odd(-9, place("", "")), odd(-9, place(""))) || tree.Same(odd(-9, place("")), odd(-8, place(""))) {
		t.Error("what isn't shaped")
	}
}

// P5.2, Same: the same things at other spots aren't the same.
func TestSameOrder(t *testing.T) {
	for i, change := range []func(p *api.Prog){
		func(p *api.Prog) { p.Structs[0], p.Structs[1] = p.Structs[1], p.Structs[0] },
		func(p *api.Prog) {
			p.Structs[0].Fields[0], p.Structs[0].Fields[1] = p.Structs[0].Fields[1], p.Structs[0].Fields[0]
		},
		func(p *api.Prog) { p.Funcs[0], p.Funcs[1] = p.Funcs[1], p.Funcs[0] },
		func(p *api.Prog) { p.Funcs[0].Params, p.Funcs[0].Locals = p.Funcs[0].Locals, p.Funcs[0].Params },
		func(p *api.Prog) { p.Funcs[0].Params, p.Funcs[0].Locals = tree.Vars(p.Funcs[0]), nil },
		func(p *api.Prog) { p.Funcs[0].Blocks[0].Name, p.Funcs[0].Blocks[1].Name = "b1", "b0" },
		func(p *api.Prog) { stmtAt(p, api.STag).Name, stmtAt(p, api.STag).Variant = "some", "opt" },
		func(p *api.Prog) { s := stmtAt(p, api.SAdd); s.Args[0], s.Args[1] = s.Args[1], s.Args[0] },
		func(p *api.Prog) { s := stmtAt(p, api.SUse); s.To, s.Args[0] = s.Args[0], s.To },
		func(p *api.Prog) { e := termAt(p, api.TMatch); e.Arms[0], e.Arms[1] = e.Arms[1], e.Arms[0] },
		func(p *api.Prog) { e := termAt(p, api.TIf); e.Blocks[0], e.Blocks[1] = e.Blocks[1], e.Blocks[0] },
	} {
		p := full()
		change(&p)
		if tree.Same(p, full()) || tree.Same(full(), p) {
			t.Error(i)
		}
	}
}

// wantAlike: two programs are the same to the last part, At too.
func wantAlike(t *testing.T, what string, got, want api.Prog) {
	t.Helper()
	if !reflect.DeepEqual(got, want) {
		t.Errorf("%s: %v, want %v", what, got, want)
	}
}

// P5.2, Clone: the same, At too; whatever is changed in the clone, the program stays as it was, and the other way round.
func TestClone(t *testing.T) {
	wantAlike(t, "Clone", tree.Clone(numbered()), numbered())
	wantAlike(t, "Clone of nothing", tree.Clone(api.Prog{}), api.Prog{})
	p := numbered()
	for i, x := range partsOf(&p) {
		for _, change := range changes(x.value) {
			p := numbered()
			c := tree.Clone(p)
			change(partsOf(&c)[i].value)
			wantAlike(t, "the program, with the clone's "+x.name+" changed", p, numbered())
			p = numbered()
			c = tree.Clone(p)
			change(partsOf(&p)[i].value)
			wantAlike(t, "the clone, with the program's "+x.name+" changed", c, numbered())
		}
		if t.Failed() {
			return
		}
	}
}

// lists: where each list of a program begins in memory, and where it ends, spare room too.
func lists(p *api.Prog) [][2]uintptr {
	var all [][2]uintptr
	for _, x := range partsOf(p) {
		if x.value.Kind() == reflect.Slice && x.value.Cap() > 0 {
			from := x.value.Pointer()
			all = append(all, [2]uintptr{from, from + uintptr(x.value.Cap())*x.value.Type().Elem().Size()})
		}
	}
	return all
}

// P5.2 and rule 4, Clone: no list shares memory with the program, nor with another one, also if those of the program do; spare room too.
func TestCloneMemory(t *testing.T) {
	steps := []string{"a", "*", "spare"}[:2]
	args := []api.Place{{Local: "x", Steps: steps}, {Local: "y", Steps: steps}, {Local: "spare"}}[:2]
	b := api.Block{Name: "b", Stmts: repeat(3, api.Stmt{Kind: api.SAdd, To: args[0], Args: args}), Term: api.Term{Kind: api.TCall, To: args[1], Name: "f", Args: args, Blocks: steps, Arms: []api.Arm{{}, {}}[:1]}}
	vars := []api.Var{{Name: "a", Type: "int"}, {Name: "spare"}}[:1]
	f := api.Func{Name: "f", Params: vars, Locals: vars, Blocks: repeat(2, b)}
	p := api.Prog{Structs: repeat(2, api.Struct{Name: "s", Fields: vars}), Enums: repeat(2, api.Enum{Name: "e", Variants: vars}), Funcs: repeat(2, f)}
	c := tree.Clone(p)
	wantAlike(t, "Clone", c, p)
	own := lists(&c)
	if len(own) < 50 {
		t.Fatal(len(own))
	}
	for i, x := range own {
		for _, y := range append(lists(&p), own[:i]...) {
			if x[0] < y[1] && y[0] < x[1] {
				t.Fatal("two lists share memory")
			}
		}
	}
	if steps[:3][2] != "spare" || args[:3][2].Local != "spare" || vars[:2][1].Name != "spare" {
		t.Error("what lies behind a list's length was changed")
	}
}

// Rule 4: no call changes what it is handed, nor what lies behind a list's length.
func TestUnchanged(t *testing.T) {
	p := numbered()
	// What is in a list first: the list's copy is to have it.
	for _, x := range slices.Backward(partsOf(&p)) {
		if x.value.Kind() == reflect.Slice {
			room := reflect.MakeSlice(x.value.Type(), x.value.Len(), x.value.Len()+2)
			reflect.Copy(room, x.value)
			x.value.Set(room)
		}
	}
	tree.Right(p)
	tree.Same(p, numbered())
	tree.Clone(p)
	for i, f := range p.Funcs {
		for x := range tree.Uses(f) {
			tree.Text(x)
			tree.Equal(x, x)
			tree.Front(x, x)
		}
		tree.Find(tree.Vars(f), "x")
		tree.Block(f, "b1")
		if i == 0 && len(tree.Vars(f)) != 4 {
			t.Error(tree.Vars(f))
		}
	}
	if !tree.Same(p, numbered()) {
		t.Error("changed")
	}
	for _, x := range partsOf(&p) {
		if x.value.Kind() != reflect.Slice {
			continue
		}
		room := x.value.Slice(0, x.value.Cap())
		for i := x.value.Len(); i < room.Len(); i++ {
			if !room.Index(i).IsZero() {
				t.Error(x.name, "was changed behind its length")
			}
		}
	}
}
