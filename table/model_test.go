package table_test

import (
	"fmt"
	"math/rand"
	"slices"
	"strings"
	"testing"

	"drogue/api"
	"drogue/table"
)

// item is a declaration, as the model has it: an enum has parts without a type, perhaps.
type item struct {
	name  string
	enum  bool
	hook  bool
	parts []api.Var
}

func items(p api.Prog) []item {
	var list []item
	for _, s := range p.Structs {
		list = append(list, item{s.Name, false, s.Hook, s.Fields})
	}
	for _, e := range p.Enums {
		list = append(list, item{e.Name, true, false, e.Variants})
	}
	return list
}

// names: the declared ones, with int, as a text with a blank on both sides of each.
func names(list []item) string {
	text := " int "
	for _, x := range list {
		text += x.name + " "
	}
	return text
}

// modelSound: what is told of declarations that aren't sound, by what stands ahead of each name.
func modelSound(list []item) string {
	var told []string
	ahead := " "
	for i, x := range list {
		tell := func(is bool, word string) {
			if is {
				told = append(told, fmt.Sprint(i, " ", word))
			}
		}
		tell(strings.Contains(ahead, " "+x.name+" "), "twice")
		ahead += x.name + " "
		within := " "
		for _, v := range x.parts {
			base := strings.ReplaceAll(v.Type, "box ", "")
			tell(strings.Contains(within, " "+v.Name+" "), "twice")
			tell(v.Type != "" && !strings.Contains(names(list), " "+base+" "), "name")
			within += v.Name + " "
		}
	}
	return strings.Join(told, ", ")
}

// modelWithin: which declarations each one has within, by any number of steps.
func modelWithin(list []item) [][]bool {
	within := make([][]bool, len(list))
	for i, x := range list {
		within[i] = make([]bool, len(list))
		for j, y := range list {
			within[i][j] = slices.ContainsFunc(x.parts, func(v api.Var) bool { return v.Type == y.name })
		}
	}
	for k := range list {
		for i := range list {
			for j := range list {
				within[i][j] = within[i][j] || within[i][k] && within[k][j]
			}
		}
	}
	return within
}

// modelSlots: how many slots each declaration has, where those that have an end have them behind as many rounds as there are declarations.
func modelSlots(list []item, within [][]bool) []float64 {
	slots := make([]float64, len(list))
	for range list {
		next := make([]float64, len(list))
		for i, x := range list {
			sum, greatest := 0.0, 0.0
			for _, v := range x.parts {
				n := min(1, float64(len(v.Type)))
				if j := slices.IndexFunc(list, func(y item) bool { return y.name == v.Type }); j >= 0 {
					n = slots[j]
				}
				sum, greatest = sum+n, max(greatest, n)
			}
			next[i] = max(1, sum)
			if x.enum {
				next[i] = 1 + greatest
			}
		}
		slots = next
	}
	for i := range list {
		for j := range list {
			if within[j][j] && (i == j || within[i][j]) {
				slots[i] = 1e300
			}
		}
	}
	return slots
}

// modelDrops: does a declaration need drop: has it a hook or a box, or one that has, within?
func modelDrops(list []item, within [][]bool, i int) bool {
	for j, x := range list {
		if i == j || within[i][j] {
			if x.hook || slices.ContainsFunc(x.parts, func(v api.Var) bool { return strings.HasPrefix(v.Type, "box ") }) {
				return true
			}
		}
	}
	return false
}

func modelDiags(list []item) string {
	told := modelSound(list)
	if told != "" {
		return told
	}
	for i, n := range modelSlots(list, modelWithin(list)) {
		if n > 32 {
			told += fmt.Sprint(", ", i, " size")
		}
	}
	return strings.TrimPrefix(told, ", ")
}

// someProg: a program of declarations at random, more of which are sound, and not too great, than aren't.
func someProg(r *rand.Rand) api.Prog {
	pool := strings.Fields("a b c d e f g h i j k l")
	r.Shuffle(len(pool), func(i, j int) { pool[i], pool[j] = pool[j], pool[i] })
	structs, enums := r.Intn(7), r.Intn(6)
	loops, faults := r.Intn(4) == 0, r.Intn(4) == 0
	part := func(i, j int, payload bool) api.Var {
		v := api.Var{Name: fmt.Sprint("x", j), Type: "int"}
		if faults && r.Intn(12) == 0 {
			v.Name = "x0"
		}
		// Of what stands behind it in the shuffled pool, which has no end.
		if rest := pool[i+1 : structs+enums]; len(rest) > 0 && r.Intn(3) > 0 {
			v.Type = rest[r.Intn(len(rest))]
		}
		if loops && r.Intn(12) == 0 {
			v.Type = pool[r.Intn(structs+enums)]
		}
		if r.Intn(10) == 0 {
			v.Type = boxes(1+r.Intn(8), pool[r.Intn(structs+enums)])
		}
		if faults && r.Intn(12) == 0 {
			v.Type = []string{"zz", "box zz", "x0", "l"}[r.Intn(4)]
		}
		if payload && r.Intn(3) == 0 {
			v.Type = ""
		}
		return v
	}
	var p api.Prog
	var all []int
	for i := range structs + enums {
		all = append(all, i)
	}
	r.Shuffle(len(all), func(i, j int) { all[i], all[j] = all[j], all[i] })
	for at, i := range all {
		name, enum := pool[i], at >= structs
		if faults && r.Intn(10) == 0 {
			name = pool[0]
		}
		var parts []api.Var
		for j := range r.Intn([]int{3, 4, 17}[r.Intn(3)]) {
			parts = append(parts, part(i, j, enum))
		}
		if !enum {
			p.Structs = append(p.Structs, api.Struct{At: at, Name: name, Safe: r.Intn(3) == 0, Hook: r.Intn(8) == 0, Fields: parts})
			continue
		}
		if len(parts) == 0 {
			parts = []api.Var{{Name: "x0"}}
		}
		p.Enums = append(p.Enums, api.Enum{At: at, Name: name, Variants: parts})
	}
	return p
}

// wantAll: what a table answers of each declaration and its parts is what the model has.
func wantAll(t *testing.T, tab *table.Table, p api.Prog) {
	t.Helper()
	list := items(p)
	within := modelWithin(list)
	slots := modelSlots(list, within)
	of := func(typ string) int {
		i := slices.IndexFunc(list, func(x item) bool { return x.name == typ })
		if i < 0 {
			return 1
		}
		return int(slots[i])
	}
	for i, x := range list {
		w := want{known: true, slots: int(slots[i]), drops: modelDrops(list, within, i), number: -1}
		ahead := 0
		if !x.enum {
			w.number, w.safe = i, p.Structs[i].Safe
		}
		wantType(t, tab, x.name, w)
		wantType(t, tab, boxes(i%8+1, x.name), want{known: true, slots: 1, drops: true, number: -1})
		wantType(t, tab, "ref "+x.name, want{known: true, slots: 1, copied: true, number: -1})
		wantType(t, tab, "mut "+x.name, want{known: true, slots: 1, number: -1})
		wantNoParts(t, tab, x.name, x.enum, !x.enum)
		for j, v := range x.parts {
			if x.enum {
				wantPart(t, "Variant", tab.Variant, x.name, v.Name, v.Type, j, true)
				continue
			}
			wantPart(t, "Field", tab.Field, x.name, v.Name, v.Type, ahead, true)
			ahead += of(v.Type)
		}
	}
}

// P8.1 and P8.2, beside a plain model.
func TestModel(t *testing.T) {
	r := rand.New(rand.NewSource(88))
	codes := map[string]int{}
	for range 20000 {
		p := someProg(r)
		want := modelDiags(items(p))
		tab, diags := table.New(p)
		if got := told(diags); got != want || (tab == nil) != (want != "") {
			t.Fatalf("%q, want %q, of %+v", got, want, p)
		}
		if want == "" {
			codes["none"]++
			wantAll(t, tab, p)
		}
		for _, word := range []string{"twice", "name", "size"} {
			if strings.Contains(want, word) {
				codes[word]++
			}
		}
		if t.Failed() {
			t.Fatalf("of %+v", p)
		}
	}
	for _, word := range []string{"none", "twice", "name", "size"} {
		if codes[word] < 1000 {
			t.Error("too few programs:", word, codes[word])
		}
	}
}
