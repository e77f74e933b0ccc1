package parse_test

import (
	"fmt"
	"maps"
	"math/rand"
	"slices"
	"strconv"
	"strings"
	"testing"

	"drogue/api"
	"drogue/lex"
	"drogue/parse"
	"drogue/tree"
)

// grammar: the chapter's, as rules without brackets; N is a name, # a number, a * or ? behind something says how often it may stand, and all that is no rule stands for itself.
const grammar = `
Program: Decl*
Decl: Struct | Enum | Func
Struct: struct N safe? hook? { Field* }
Field: N Plain ;
Enum: enum N { Variant Variant* }
Variant: N Plain? ;
Func: fn N ( Params? ) Plain { Let* Block Block* }
Params: N Type NextParam*
NextParam: , N Type
Let: let N Type ;
Block: N : Stmt* Term
Plain: int | N | box Plain
Type: Plain | ref Plain | mut Plain
Place: N Step*
Step: . N | . *
Stmt: Place = # ; | Place = add Place Place ; | Place = sub Place Place ; | Place = less Place Place ; | Place = use Place ; | Place = box Place ; | Place = new N Place* ; | Place = tag N . N Place? ; | Place = ref Place ; | Place = mut Place ; | out Place ;
Term: goto N ; | if Place N N ; | match Place Arm NextArm* ; | check N ; | call Place = N ( Args? ) N ; | catch Place = N ( Args? ) N ; | return Place ;
Arm: N N? : N
NextArm: , Arm
Args: Place NextPlace*
NextPlace: , Place`

var rules = readRules()

// readRules: of each rule's name its ways, each a row of items.
func readRules() map[string][][]string {
	out := map[string][][]string{}
	for _, line := range strings.Split(strings.TrimSpace(grammar), "\n") {
		name, ways, _ := strings.Cut(line, ": ")
		for _, way := range strings.Split(ways, " | ") {
			out[name] = append(out[name], strings.Fields(way))
		}
	}
	return out
}

// model goes all ways of the grammar at once; far is the last token that was asked for.
type model struct {
	rules map[string][][]string
	list  []lex.Token
	far   int
}

// join: both lists, each index once.
func join(a, b []int) []int {
	out := slices.Clone(a)
	for _, i := range b {
		if !slices.Contains(a, i) {
			out = append(out, i)
		}
	}
	return out
}

// item: where one may be behind an item, of where one may be ahead of it.
func (m *model) item(item string, from []int) []int {
	if base := item[:len(item)-1]; base != "" {
		switch item[len(item)-1] {
		case '?':
			return join(from, m.item(base, from))
		case '*':
			out := from
			for last := from; len(last) > 0; {
				last = m.item(base, last)
				out = join(out, last)
			}
			return out
		}
	}
	var out []int
	if ways, ok := m.rules[item]; ok {
		for _, way := range ways {
			now := from
			for _, x := range way {
				if now = m.item(x, now); len(now) == 0 {
					break
				}
			}
			out = join(out, now)
		}
		return out
	}
	for _, i := range from {
		m.far = max(m.far, i)
		if i < len(m.list) && fits(item, m.list[i]) {
			out = append(out, i+1)
		}
	}
	return out
}

func fits(item string, t lex.Token) bool {
	switch item {
	case "N":
		return t.Kind == lex.TName
	case "#":
		return t.Kind == lex.TNum
	}
	return t.Text == item
}

// modelSyntax: the index of the first token that can't stand there, also that behind the last one; -1: there is none.
func modelSyntax(list []lex.Token) int {
	m := &model{rules: rules, list: list}
	if slices.Contains(m.item("Program", []int{0}), len(list)) {
		return -1
	}
	return m.far
}

// modelMany: of tokens that go by the grammar, the index of the first that something too much is told by; -1: there is none.
func modelMany(list []lex.Token) int {
	over := []int{}
	note := func(n, most, i int) {
		if n > most {
			over = append(over, i)
		}
	}
	decls, commas, names, locals, blocks, stmts := map[string]int{}, 0, 0, 0, 0, 0
	part, head, fresh := "", false, false // the declaration; is it its head; does a sentence begin
	text := func(i int) string {
		if i < 0 || i >= len(list) {
			return ""
		}
		return list[i].Text
	}
	run := func(i, step int, sign string) int {
		n := 0
		for text(i+n*step) == sign {
			n++
		}
		return n
	}
	for i, t := range list {
		isName := t.Kind == lex.TName
		switch t.Text {
		case "struct", "enum", "fn":
			decls[t.Text]++
			note(decls[t.Text], 16, i)
			part, head, fresh, names, locals, blocks, commas = t.Text, true, false, 0, 0, 0, 0
		case "{":
			head, fresh = false, true
			continue
		case ";":
			fresh = true
			commas = 0
			continue
		case ",":
			commas++
			note(commas+1, 16, i+1)
		case "box":
			if text(i-1) != "box" {
				note(run(i, 1, "box"), 8, i)
			}
		case "let":
			locals++
			note(locals, 24, i+1)
			fresh = false
			continue
		}
		switch {
		case part != "fn" && !head && fresh && isName:
			names++
			note(names, 16, i)
		case part == "fn" && head && isName && (text(i-1) == "(" || text(i-1) == ","):
			locals++
		case part == "fn" && !head && fresh && isName && text(i+1) == ":":
			blocks++
			note(blocks, 64, i)
			stmts = 0
		case part == "fn" && !head && (fresh && isName || t.Text == "out" || fresh && text(i-1) == ":" && isName):
			stmts++
			note(stmts, 64, i)
		}
		if isName && text(i-1) != "." {
			note(run(i+1, 2, "."), 8, i)
		}
		if t.Text == "new" {
			args := 0
			for j := i + 2; text(j) != ";"; j++ {
				if list[j].Kind == lex.TName && list[j-1].Text != "." {
					args++
					note(args, 16, j)
				}
			}
		}
		// Behind a block's name and its : a sentence begins too.
		fresh = fresh && (isName && text(i+1) == ":" || t.Text == ":")
	}
	if len(over) == 0 {
		return -1
	}
	return slices.Min(over)
}

// spelling writes a program's tokens down, and says of some where they are told to stand.
type spelling struct {
	texts []string
	told  map[int]int // of a token's index its place
}

func (s *spelling) add(texts ...string) {
	for _, text := range texts {
		if text != "" {
			s.texts = append(s.texts, text)
		}
	}
}

func (s *spelling) at(at int) { s.told[len(s.texts)] = at }

func (s *spelling) typed(v api.Var) {
	s.add(v.Name)
	s.add(strings.Fields(v.Type)...)
}

func (s *spelling) place(p api.Place) {
	s.add(p.Local)
	for _, step := range p.Steps {
		s.add(".", step)
	}
}

func (s *spelling) places(list []api.Place, between string) {
	for i, p := range list {
		if i > 0 {
			s.add(between)
		}
		s.place(p)
	}
}

func (s *spelling) stmt(x api.Stmt) {
	s.at(x.At)
	if x.Kind == api.SOut {
		s.add("out")
	} else {
		s.place(x.To)
		s.add("=")
	}
	s.add([]string{"", "", "add", "sub", "less", "use", "box", "new", "tag", "ref", "mut", ""}[x.Kind], x.Name)
	if x.Kind == api.SNum {
		s.add(strconv.FormatInt(x.N, 10))
	}
	if x.Kind == api.STag {
		s.add(".", x.Variant)
	}
	s.places(x.Args, "")
	s.add(";")
}

func (s *spelling) term(x api.Term) {
	s.at(x.At)
	s.add([]string{"", "goto", "if", "match", "check", "call", "catch", "return"}[x.Kind])
	if x.Name != "" {
		s.place(x.To)
		s.add("=", x.Name, "(")
		s.places(x.Args, ",")
		s.add(")")
	} else {
		s.places(x.Args, "")
	}
	s.add(x.Blocks...)
	for i, a := range x.Arms {
		if i > 0 {
			s.add(",")
		}
		s.add(a.Variant, a.Local, ":", a.Block)
	}
	s.add(";")
}

func (s *spelling) function(f api.Func) {
	s.at(f.At)
	s.add("fn", f.Name, "(")
	for i, v := range f.Params {
		if i > 0 {
			s.add(",")
		}
		s.typed(v)
	}
	s.add(")")
	s.add(strings.Fields(f.Result)...)
	s.add("{")
	for _, v := range f.Locals {
		s.add("let")
		s.typed(v)
		s.add(";")
	}
	for _, b := range f.Blocks {
		s.at(b.At)
		s.add(b.Name, ":")
		for _, x := range b.Stmts {
			s.stmt(x)
		}
		s.term(b.Term)
	}
	s.add("}")
}

func (s *spelling) parts(word, name string, flags string, list []api.Var) {
	s.add(word, name)
	s.add(strings.Fields(flags)...)
	s.add("{")
	for _, v := range list {
		s.typed(v)
		s.add(";")
	}
	s.add("}")
}

// spell: a program's declarations in the order of their places.
func spell(p api.Prog) *spelling {
	s := &spelling{told: map[int]int{}}
	todo := map[int]func(){}
	for _, x := range p.Structs {
		flags := map[bool]string{true: "safe "}[x.Safe] + map[bool]string{true: "hook"}[x.Hook]
		todo[x.At] = func() { s.at(x.At); s.parts("struct", x.Name, flags, x.Fields) }
	}
	for _, x := range p.Enums {
		todo[x.At] = func() { s.at(x.At); s.parts("enum", x.Name, "", x.Variants) }
	}
	for _, x := range p.Funcs {
		todo[x.At] = func() { s.function(x) }
	}
	for _, at := range slices.Sorted(maps.Keys(todo)) {
		todo[at]()
	}
	return s
}

// checkSpelling: a program's tokens are those of its text, and stand where it tells.
func checkSpelling(t *testing.T, text string, list []lex.Token, p api.Prog) {
	t.Helper()
	s := spell(p)
	if len(s.texts) != len(list) {
		t.Fatalf("%q: %d tokens, want %d", text, len(s.texts), len(list))
	}
	for i, token := range list {
		want := token.Text
		if token.Kind == lex.TNum {
			want = strconv.FormatInt(token.N, 10)
		}
		at, told := s.told[i]
		if s.texts[i] != want || told && at != token.At {
			t.Fatalf("%q: token %d is %q at %d, want %q at %d", text, i, s.texts[i], at, want, token.At)
		}
	}
}

// checkText: what Parse answers is what the models say; told counts what was told.
func checkText(t *testing.T, text string, told map[int]int) {
	t.Helper()
	list, diag := lex.Lex(text)
	at := func(i int) int {
		if i == len(list) {
			return len(text)
		}
		return list[i].At
	}
	if diag == (api.Diag{}) {
		if i := modelSyntax(list); i >= 0 {
			diag = api.Diag{At: at(i), Code: api.DSyntax}
		} else if i := modelMany(list); i >= 0 {
			diag = api.Diag{At: at(i), Code: api.DMany}
		}
	}
	told[diag.Code]++
	if diag != (api.Diag{}) {
		wantDiag(t, text, diag.Code, diag.At)
		return
	}
	checkSpelling(t, text, list, good(t, text))
}

// writer makes texts by the grammar, at random; long is how seldom a list is long.
type writer struct {
	*rand.Rand
	rules map[string][][]string
	texts []string
	long  int
}

// often: how often something stands that may stand any number of times; long lists are about as long as some bound.
func (w *writer) often() int {
	if len(w.texts) < 1500 && w.Intn(w.long) == 0 {
		bounds := []int{7, 8, 9, 14, 15, 16, 17, 23, 24, 25, 63, 64, 65}
		return bounds[w.Intn(len(bounds))]
	}
	return w.Intn(3)
}

func (w *writer) write(item string) {
	if base := item[:len(item)-1]; base != "" {
		switch item[len(item)-1] {
		case '?':
			for range w.Intn(2) {
				w.write(base)
			}
			return
		case '*':
			for range w.often() {
				w.write(base)
			}
			return
		}
	}
	if item == "Plain" {
		w.texts = append(w.texts, slices.Repeat([]string{"box"}, w.often())...)
		item = []string{"int", "N"}[w.Intn(2)]
	}
	if ways, ok := w.rules[item]; ok {
		for _, x := range ways[w.Intn(len(ways))] {
			w.write(x)
		}
		return
	}
	w.texts = append(w.texts, w.token(item))
}

func (w *writer) token(item string) string {
	switch item {
	case "N":
		return []string{"a", "b", "x1", "abcdefghijklmnop", "boxes", "z_"}[w.Intn(6)]
	case "#":
		return []string{"0", "-0", "007", "-5", "1099511627776", "-1099511627776"}[w.Intn(6)]
	}
	return item
}

// spoil: leaves a token out, doubles one, changes one, puts one in, or cuts the rest off.
func (w *writer) spoil() {
	if len(w.texts) == 0 {
		return
	}
	all := strings.Fields("struct enum fn let safe hook int box ref mut add sub less use new tag out goto if match check call catch return { } ( ) ; , . * : = N N N #")
	i, other := w.Intn(len(w.texts)), w.token(all[w.Intn(len(all))])
	switch w.Intn(6) {
	case 0:
		w.texts = slices.Delete(w.texts, i, i+1)
	case 1:
		w.texts = slices.Insert(w.texts, i, w.texts[i])
	case 2:
		w.texts[i] = other
	case 3:
		w.texts = slices.Insert(w.texts, i, other)
	case 4:
		w.texts = w.texts[:i]
	case 5:
		j := w.Intn(len(w.texts))
		w.texts[i], w.texts[j] = w.texts[j], w.texts[i]
	}
}

// text: the tokens with something between them.
func (w *writer) text() string {
	text := ""
	for _, x := range w.texts {
		text += x + []string{" ", " ", "  ", "\n", "\t", " #x;\n", "#\n "}[w.Intn(7)]
	}
	return text
}

// P6.1 and P6.2: texts by the grammar, and texts with something wrong in them, are told as the models say.
func TestModel(t *testing.T) {
	told := map[int]int{}
	for seed := range 6000 {
		w := &writer{Rand: rand.New(rand.NewSource(int64(seed))), rules: rules, long: []int{10, 30, 100, 1000}[seed%4]}
		w.write("Program")
		for range seed / 4 % 3 {
			w.spoil()
		}
		checkText(t, w.text(), told)
	}
	if told[0] < 800 || told[api.DSyntax] < 2000 || told[api.DMany] < 200 {
		t.Error("too few of a kind:", told)
	}
}

// P6.1: every token in the place of each one of the full text, ahead of it, and with it left out.
func TestModelEach(t *testing.T) {
	told := map[int]int{}
	list, _ := lex.Lex(full)
	for _, token := range list {
		front, behind := full[:token.At], full[token.At+len(token.Text):]
		checkText(t, front+behind, told)
		for _, other := range strings.Fields("struct enum fn let safe hook int box ref mut add sub less use new tag out goto if match check call catch return { } ( ) ; , . * : = n 5") {
			checkText(t, front+" "+other+" "+behind, told)
			checkText(t, front+" "+other+" "+token.Text+behind, told)
		}
	}
	if told[0] < 100 || told[api.DSyntax] < 10000 {
		t.Error("too few of a kind:", told)
	}
}

// P1: no call panics, whatever it is handed.
func TestAnyBytes(t *testing.T) {
	r := rand.New(rand.NewSource(6))
	for range 5000 {
		bytes := make([]byte, r.Intn(60))
		for i := range bytes {
			bytes[i] = byte(r.Intn(256))
		}
		cut, end := r.Intn(len(full)), r.Intn(len(full))
		for _, text := range []string{string(bytes), full[:cut] + string(bytes), full[cut:], full[cut:] + full[:end]} {
			p, diags := parse.Parse(text)
			if len(diags) > 1 || len(diags) == 1 && (!tree.Same(p, api.Prog{}) || diags[0].At < 0 || diags[0].At > len(text)) || len(diags) == 0 && !tree.Right(p) {
				t.Fatal(fmt.Sprintf("%q", text), diags)
			}
		}
	}
}
