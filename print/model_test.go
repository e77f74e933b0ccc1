package print_test

import (
	"math/rand"
	"reflect"
	"regexp"
	"strconv"
	"strings"
	"testing"

	"drogue/api"
	"drogue/lex"
	"drogue/parse"
	"drogue/print"
	"drogue/tree"
)

// laid: a text, whose structs, enums and functions stand in this order, as the chapter lays it out: by its tokens alone.
func laid(text string) string {
	list, _ := lex.Lex(text)
	var words []string
	for _, token := range list {
		if token.Kind == lex.TNum {
			token.Text = strconv.FormatInt(token.N, 10)
		}
		words = append(words, token.Text)
	}
	text = strings.Join(words, " ")
	for _, change := range []struct{ from, to string }{
		{` ([;,):.(])`, `$1`}, {`([(.]) `, `$1`},
		{`([;{]) `, "$1\n"}, {`} ?`, "}\n\n"}, {`\n\n$`, "\n"},
		// A block's name is what a line begins with that has a : behind it.
		{`(?m)^([a-z0-9_]+:) `, "$1\n"},
		{`(?m)^([^}\n])`, "\t$1"}, {`(?m)^\t(.*[{:])$`, "$1"},
	} {
		text = regexp.MustCompile(change.from).ReplaceAllString(text, change.to)
	}
	return text
}

// maker makes texts at random.
type maker struct{ *rand.Rand }

func (m maker) one(list ...string) string { return list[m.Intn(len(list))] }

// some: from least to most texts with something between them.
func (m maker) some(least, most int, between string, made func() string) string {
	var list []string
	for range least + m.Intn(most-least+1) {
		list = append(list, made())
	}
	return strings.Join(list, between)
}

func (m maker) name() string {
	return m.one("a", "b", "x", "y1", "z_", "boxes", "abcdefghijklmnop", "refs")
}

func (m maker) plain() string {
	return m.one("", "", "box ", strings.Repeat("box ", 8)) + m.one("int", m.name())
}

func (m maker) anyType() string { return m.one("", "ref ", "mut ") + m.plain() }

func (m maker) place() string {
	return m.name() + m.some(0, m.most(3, 8), "", func() string { return "." + m.one("*", m.name()) })
}

// most: one of two numbers, the first one more often.
func (m maker) most(a, b int) int { return []int{a, a, a, b}[m.Intn(4)] }

// fill: a text with a name for each N, a place for each P, a row of places for each R, and so on.
func (m maker) fill(text string) string {
	var b strings.Builder
	for _, c := range text {
		switch c {
		case 'N':
			b.WriteString(m.name())
		case 'P':
			b.WriteString(m.place())
		case 'R':
			b.WriteString(m.some(0, m.most(3, 16), " ", m.place))
		case 'C':
			b.WriteString(m.some(0, m.most(3, 16), " , ", m.place))
		case 'A':
			b.WriteString(m.some(1, m.most(3, 16), ",", func() string { return m.fill(m.one("N:N", "N N : N")) }))
		case '#':
			b.WriteString(m.one("0", "-0", "007", "-5", "1099511627776", "-1099511627776", "12"))
		case ' ':
			b.WriteString(m.one(" ", "\t", "  ", "\n", " # x\n"))
		default:
			b.WriteRune(c)
		}
	}
	return b.String()
}

func (m maker) stmt() string {
	return m.fill(m.one("P=#;", "P = add P P;", "P = sub P P ;", "P=less P P;", "P=use P;", "P=box P;", "P=new N R;", "P=tag N.N;", "P=tag N . N P;", "P=ref P;", "P=mut P;", "out P;"))
}

func (m maker) term() string {
	return m.fill(m.one("goto N;", "if P N N;", "match P A;", "check N;", "call P=N(C)N;", "catch P = N ( C ) N ;", "return P;"))
}

func (m maker) program() string {
	field := func() string { return m.name() + " " + m.plain() + ";" }
	variant := func() string { return m.name() + m.one("", " "+m.plain()) + " ;" }
	param := func() string { return m.name() + " " + m.anyType() }
	block := func() string { return m.name() + ":" + m.some(0, m.most(4, 20), "", m.stmt) + m.term() }
	return m.some(0, 3, "", func() string {
		return "struct " + m.name() + m.one("", " safe") + m.one("", " hook") + "{" + m.some(0, 4, "", field) + "}"
	}) + m.some(0, 3, "", func() string {
		return "enum " + m.name() + "{" + m.some(1, 4, "", variant) + "}"
	}) + m.some(0, 3, "", func() string {
		return "fn " + m.name() + "(" + m.some(0, 4, ",", param) + ")" + m.plain() + "{" +
			m.some(0, 4, "", func() string { return "let " + param() + ";" }) + m.some(1, 4, "", block) + "}"
	})
}

// P7.1 and P7.2: of texts at random, the program's text is the one that the model lays out, and is parsed as it.
func TestModel(t *testing.T) {
	if laid(full) != full {
		t.Fatal(laid(full))
	}
	long := 0
	for seed := range 2000 {
		m := maker{rand.New(rand.NewSource(int64(seed)))}
		text := m.program()
		want := laid(text)
		p, diags := parse.Parse(text)
		if len(text) <= api.MaxText && len(diags) != 0 {
			t.Fatal(diags, text)
		}
		if len(diags) == 0 && len(want) > api.MaxText {
			wantNone(t, "a text that is too long", p)
			long++
		} else if len(diags) == 0 {
			wantText(t, p, want)
			wantLines(t, p, want)
		}
	}
	if long > 100 {
		t.Error("too many are too long:", long)
	}
}

// wantLines: each statement's line, and each end's, stand in a program's text, in their order.
func wantLines(t *testing.T, p api.Prog, text string) {
	t.Helper()
	next := func(line string) {
		t.Helper()
		_, rest, ok := strings.Cut(text, "\n\t"+line+"\n")
		if line == "" || !ok {
			t.Fatalf("line %q isn't there", line)
		}
		text = "\n" + rest
	}
	for _, f := range p.Funcs {
		for _, b := range f.Blocks {
			for _, s := range b.Stmts {
				next(print.Stmt(s))
			}
			next(print.Term(b.Term))
		}
	}
}

// parts: all texts, numbers, bools and lists of a program.
func parts(v reflect.Value) []reflect.Value {
	var list []reflect.Value
	switch v.Kind() {
	case reflect.Struct:
		for i := range v.NumField() {
			list = append(list, parts(v.Field(i))...)
		}
		return list
	case reflect.Slice:
		for i := range v.Len() {
			list = append(list, parts(v.Index(i))...)
		}
	}
	return append(list, v)
}

// spoil: a part becomes another one.
func spoil(r *rand.Rand, v reflect.Value) {
	switch v.Kind() {
	case reflect.String:
		odd := []string{"", "x", "box", "*", "int", "A", "a b", "ref int", "box int", "abcdefghijklmnopq", "\x00", "\xff", "a;", "a(", "# a", "a\n"}
		v.SetString(odd[r.Intn(len(odd))])
	case reflect.Bool:
		v.SetBool(!v.Bool())
	case reflect.Slice:
		if n := v.Len(); n > 0 && r.Intn(2) == 0 {
			v.SetLen(r.Intn(n))
			return
		}
		for range []int{1, 2, 17}[r.Intn(3)] {
			one := reflect.Zero(v.Type().Elem())
			if v.Len() > 0 {
				one = v.Index(v.Len() - 1)
			}
			v.Set(reflect.Append(v.Slice3(0, v.Len(), v.Len()), one))
		}
	default:
		odd := []int64{0, 1, 2, 3, 5, 7, 8, 11, 12, -1, 1 << 40, 1<<40 + 1, -1 << 40, -1<<40 - 1, 1<<63 - 1, -1 << 63}
		v.SetInt(odd[r.Intn(len(odd))])
	}
}

// P7.1, P7.2 and P1: programs in which something was changed have a text that is parsed as they, if they are shaped still, and else none; so have their lines.
func TestChanged(t *testing.T) {
	r := rand.New(rand.NewSource(7))
	right, wrong := 0, 0
	for range 4000 {
		p := parsed(t, full)
		for range 1 + r.Intn(2) {
			list := parts(reflect.ValueOf(&p).Elem())
			spoil(r, list[r.Intn(len(list))])
		}
		checkLines(t, p)
		if !tree.Right(p) {
			wantNone(t, "what isn't shaped", p)
			wrong++
			continue
		}
		text, ok := print.Print(p)
		if !ok {
			t.Fatalf("no text: %+v", p)
		}
		wantText(t, p, laid(text))
		right++
	}
	if right < 500 || wrong < 1000 {
		t.Error("too few are shaped, or aren't:", right, wrong)
	}
}

// checkLines: each statement, and each end, that is shaped has a line, which is parsed as it, and no other has one.
func checkLines(t *testing.T, p api.Prog) {
	t.Helper()
	for _, f := range p.Funcs {
		for _, b := range f.Blocks {
			for _, s := range b.Stmts {
				checkLine(t, print.Stmt(s), "", inProgram(s, someTerm))
			}
			checkLine(t, "", print.Term(b.Term), inProgram(someStmt, b.Term))
		}
	}
}

func checkLine(t *testing.T, line, end string, p api.Prog) {
	t.Helper()
	if !tree.Right(p) {
		if line != "" || end != "" {
			t.Fatalf("lines of what isn't shaped: %q %q", line, end)
		}
		return
	}
	if line == "" {
		line = "out x;"
	}
	if end == "" {
		end = "check b;"
	}
	if back, diags := parse.Parse("fn f() int { b: " + line + end + " }"); len(diags) != 0 || !tree.Same(back, p) {
		t.Fatalf("parsed again: %v: %q %q", diags, line, end)
	}
}
