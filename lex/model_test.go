package lex_test

import (
	"math/big"
	"math/rand"
	"regexp"
	"slices"
	"strings"
	"testing"

	"drogue/api"
	"drogue/lex"
)

var (
	between = regexp.MustCompile(`^(?:[ \t\n]|#[^\n]*)*`)
	shapes  = []*regexp.Regexp{
		lex.TName: regexp.MustCompile(`^[a-z][a-z0-9_]*`),
		lex.TNum:  regexp.MustCompile(`^-?[0-9]+`),
		lex.TSign: regexp.MustCompile(`^[{}();,.*:=]`),
	}
)

// within: is a number, of however many digits, within its bounds?
func within(text string) (int64, bool) {
	n, _ := new(big.Int).SetString(text, 10)
	bound := big.NewInt(api.MaxNum)
	return n.Int64(), n.CmpAbs(bound) <= 0
}

// modelToken: the token that a text begins with, by the chapter's shapes.
func modelToken(text string) (lex.Token, bool) {
	for kind, shape := range shapes {
		if shape == nil {
			continue
		}
		found := shape.FindString(text)
		if found == "" {
			continue
		}
		token := lex.Token{Kind: kind, Text: found}
		ok := true
		switch kind {
		case lex.TName:
			ok = len(found) <= 16
			if slices.Contains(strings.Fields(words), found) {
				token.Kind = lex.TWord
			}
		case lex.TNum:
			token.N, ok = within(found)
		}
		return token, ok
	}
	return lex.Token{}, false
}

func modelLex(text string) ([]lex.Token, api.Diag) {
	if len(text) > 16384 {
		return nil, api.Diag{At: 16384, Code: 3}
	}
	var list []lex.Token
	at := 0
	for {
		at += len(between.FindString(text[at:]))
		if at == len(text) {
			return list, api.Diag{}
		}
		token, ok := modelToken(text[at:])
		if !ok {
			return nil, api.Diag{At: at, Code: 1}
		}
		token.At = at
		list = append(list, token)
		at += len(token.Text)
	}
}

var pieces = append(strings.Fields(words), " ", "\t", "\n", "  ", "#", "# a $\n", "-", "0", "7", "00", "1099511627776", "1099511627777",
	"a", "b_1", "_", "abcdefghijklmnop", "q", "{", "}", "(", ")", ";", ",", ".", "*", ":", "=", "5", "-5")

var wrong = []string{"$", "A", "\x00", "\xff", "\r", "-", "_", "[", "é", "/", "`", "~", "@", "G"}

// someText: pieces in a row, and perhaps something that is no token among them.
func someText(r *rand.Rand) string {
	var b strings.Builder
	for range r.Intn(40) {
		b.WriteString(pieces[r.Intn(len(pieces))])
		if r.Intn(3) == 0 {
			b.WriteByte(' ')
		}
		if r.Intn(150) == 0 {
			b.WriteString(wrong[r.Intn(len(wrong))])
		}
	}
	return b.String()
}

// someBytes: any bytes.
func someBytes(r *rand.Rand) string {
	b := make([]byte, r.Intn(30))
	r.Read(b)
	return string(b)
}

// P3.1 to P3.3, beside a plain model: tokens, names and words, and Join of tokens.
func TestModel(t *testing.T) {
	r := rand.New(rand.NewSource(3))
	accepted := 0
	for i := range 40000 {
		text := someText(r)
		if i%5 == 0 {
			text = someBytes(r)
		}
		want, wantDiag := modelLex(text)
		got, diag := lex.Lex(text)
		if diag != wantDiag || !slices.Equal(got, want) {
			t.Fatalf("Lex(%q): %v %v, want %v %v", text, got, diag, want, wantDiag)
		}
		if len(got) > 1 {
			accepted++
		}
		checkTokens(t, text, got)
		checkJoin(t, got)
		one := len(want) == 1 && want[0].Text == text
		if lex.Name(text) != (one && want[0].Kind == lex.TName) || lex.Word(text) != (one && want[0].Kind == lex.TWord) {
			t.Fatalf("Name, Word of %q: %v %v", text, lex.Name(text), lex.Word(text))
		}
	}
	if accepted < 5000 {
		t.Error("too few texts have tokens:", accepted)
	}
}

// checkTokens: each token stands at its place, and those behind it behind it.
func checkTokens(t *testing.T, text string, list []lex.Token) {
	t.Helper()
	end := 0
	for _, token := range list {
		if token.At < end || !strings.HasPrefix(text[token.At:], token.Text) || token.Text == "" {
			t.Fatalf("%q: %v", text, token)
		}
		end = token.At + len(token.Text)
		if name, word := token.Kind == lex.TName, token.Kind == lex.TWord; lex.Name(token.Text) != name || lex.Word(token.Text) != word {
			t.Fatalf("Name, Word of %v", token)
		}
	}
}

// checkJoin: what Join makes of tokens is, as tokens, they, but for their places.
func checkJoin(t *testing.T, list []lex.Token) {
	t.Helper()
	joined := lex.Join(list...)
	again, diag := lex.Lex(joined)
	if len(joined) > api.MaxText {
		if diag != (api.Diag{At: api.MaxText, Code: api.DMany}) || len(again) != 0 {
			t.Fatalf("%d bytes: %d %v", len(joined), len(again), diag)
		}
		return
	}
	if diag != (api.Diag{}) || len(again) != len(list) {
		t.Fatalf("Lex(%q): %v %v", short(joined), again, diag)
	}
	at := 0
	for i, token := range list {
		token.At = at
		if again[i] != token {
			t.Fatalf("Lex(%q): %v, want %v", short(joined), again[i], token)
		}
		at += len(token.Text) + 1
	}
}

// P3.3: at the greatest text that Join can make, and beyond it.
func TestJoinBack(t *testing.T) {
	for _, text := range []string{
		"", "a", "5-3", "x.*=-5;# a", words, strings.Join(strings.Split(signs, ""), ""), "-1099511627776", "007 -0 5x",
		strings.Repeat(";", 8192), strings.Repeat(";", 8193), strings.Repeat("-1", 5461), strings.Repeat("-1", 5462), strings.Repeat("{", api.MaxText),
	} {
		list, diag := lex.Lex(text)
		if diag != (api.Diag{}) {
			t.Fatal(short(text), diag)
		}
		checkJoin(t, list)
	}
	list, _ := lex.Lex(strings.Repeat(";", 8191) + "-5")
	if joined := lex.Join(list...); len(joined) != api.MaxText {
		t.Fatal(len(joined))
	}
	checkJoin(t, list)
}

// P1: no call panics, whatever it is handed.
func TestAnyArguments(t *testing.T) {
	r := rand.New(rand.NewSource(33))
	for range 20000 {
		text := someBytes(r) + someText(r)
		if cut := r.Intn(len(text) + 1); r.Intn(2) == 0 {
			text = text[cut:]
		}
		lex.Lex(text)
		lex.Word(text)
		lex.Name(text)
		lex.Join(lex.Token{Kind: r.Int(), At: -r.Int(), Text: text, N: r.Int63()}, lex.Token{})
	}
}
