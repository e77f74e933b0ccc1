package lex_test

import (
	"math"
	"slices"
	"strings"
	"testing"

	"drogue/api"
	"drogue/lex"
)

const (
	words   = "struct enum fn let safe hook int box ref mut add sub less use new tag out goto if match check call catch return"
	signs   = "{}();,.*:="
	letters = "abcdefghijklmnopqrstuvwxyz"
	digits  = "0123456789"
)

func name(at int, text string) lex.Token { return lex.Token{Kind: lex.TName, At: at, Text: text} }

func word(at int, text string) lex.Token { return lex.Token{Kind: lex.TWord, At: at, Text: text} }

func sign(at int, text string) lex.Token { return lex.Token{Kind: lex.TSign, At: at, Text: text} }

func num(at int, text string, n int64) lex.Token {
	return lex.Token{Kind: lex.TNum, At: at, Text: text, N: n}
}

// short: enough of a text to know it by.
func short(text string) string { return text[:min(len(text), 60)] }

func wantTokens(t *testing.T, text string, want ...lex.Token) {
	t.Helper()
	if got, diag := lex.Lex(text); diag != (api.Diag{}) || !slices.Equal(got, want) {
		t.Errorf("Lex(%q): %v %v, want %v", short(text), got, diag, want)
	}
}

// wantDiag: a text has that diagnostic, and no tokens beside it.
func wantDiag(t *testing.T, text string, code, at int) {
	t.Helper()
	if got, diag := lex.Lex(text); diag != (api.Diag{At: at, Code: code}) || len(got) != 0 {
		t.Errorf("Lex(%q): %d tokens %v, want none and code %d at %d", short(text), len(got), diag, code, at)
	}
}

func wantNone(t *testing.T, text string, at int) {
	t.Helper()
	wantDiag(t, text, api.DToken, at)
}

// The constants, and the fields of a token, are as the chapter has them.
func TestKinds(t *testing.T) {
	if lex.TName != 1 || lex.TWord != 2 || lex.TNum != 3 || lex.TSign != 4 {
		t.Error(lex.TName, lex.TWord, lex.TNum, lex.TSign)
	}
	keys := map[lex.Token]int{{Kind: 1, At: 2, Text: "a", N: 3}: 4}
	if keys[lex.Token{Kind: 1, At: 2, Text: "a", N: 3}] != 4 {
		t.Error("tokens that are the same aren't the same key")
	}
}

// P3.1: a text of no byte, of 16,384 bytes and of one more.
func TestLexLimit(t *testing.T) {
	wantTokens(t, "")
	full := strings.Repeat("a ", api.MaxText/2)
	if got, diag := lex.Lex(full); len(got) != api.MaxText/2 || diag != (api.Diag{}) || got[len(got)-1] != name(api.MaxText-2, "a") {
		t.Error("16,384 bytes of names:", len(got), diag)
	}
	for _, fill := range []string{" ", "\n", "\t", ";", "#"} {
		fits := strings.Repeat(fill, api.MaxText)
		if got, diag := lex.Lex(fits); diag != (api.Diag{}) || (len(got) == api.MaxText) != (fill == ";") {
			t.Errorf("16,384 of %q: %d %v", fill, len(got), diag)
		}
		wantDiag(t, fits+fill, api.DMany, api.MaxText)
		wantDiag(t, strings.Repeat(fill, 100000), api.DMany, api.MaxText)
	}
	// Too much is told ahead of what is no token.
	wantDiag(t, strings.Repeat("$", api.MaxText+1), api.DMany, api.MaxText)
	wantDiag(t, strings.Repeat(" ", api.MaxText)+"$", api.DMany, api.MaxText)
	wantNone(t, strings.Repeat(" ", api.MaxText-1)+"$", api.MaxText-1)
	wantTokens(t, strings.Repeat(" ", api.MaxText-3)+"-42", num(api.MaxText-3, "-42", -42))
}

// P3.1: blanks, tabs and line feeds stand between tokens, or don't; any other byte is no token.
func TestLexBetween(t *testing.T) {
	for _, gap := range []string{" ", "\t", "\n", " \t\n", "\n\n", "   "} {
		wantTokens(t, gap)
		wantTokens(t, gap+"a"+gap+"5"+gap, name(len(gap), "a"), num(2*len(gap)+1, "5", 5))
	}
	for b := range 256 {
		text := string([]byte{byte(b)})
		switch {
		case strings.Contains(letters, text):
			wantTokens(t, " "+text, name(1, text))
		case strings.Contains(digits, text):
			wantTokens(t, " "+text, num(1, text, int64(b-'0')))
		case strings.Contains(signs, text):
			wantTokens(t, " "+text, sign(1, text))
		case text == " " || text == "\t" || text == "\n":
			wantTokens(t, " "+text)
		case text == "#":
			wantTokens(t, "a#b", name(0, "a"))
		default:
			wantNone(t, text, 0)
			wantNone(t, " "+text+" ", 1)
			wantNone(t, "{"+text+";", 1)
		}
	}
}

// P3.1: a remark goes up to the next line feed, or the end, whatever is in it.
func TestLexRemarks(t *testing.T) {
	wantTokens(t, "#")
	wantTokens(t, "# a")
	wantTokens(t, "#\n")
	wantTokens(t, "# a\nb", name(4, "b"))
	wantTokens(t, "a#b\nc#d\n", name(0, "a"), name(4, "c"))
	wantTokens(t, "a# $ # - \x00 \xff A\tb\n;#", name(0, "a"), sign(17, ";"))
	wantTokens(t, "5#6\n-7", num(0, "5", 5), num(4, "-7", -7))
	wantTokens(t, "a#\nb", name(0, "a"), name(3, "b"))
	wantTokens(t, "##\n\n#")
	// Nothing but a line feed ends it.
	wantTokens(t, "#\ra\vb\fc\x00d")
	wantNone(t, "# a\n$", 4)
	wantNone(t, "# a\n-# 5", 4)
}

// P3.1: names of 1, 16 and 17 bytes, with digits and _ and without, as many bytes as there are.
func TestLexNames(t *testing.T) {
	for _, text := range []string{"a", "z", "a0", "z9", "a_", "a__", "x_1", "abcdefghijklmnop", "a123456789012345", "a_______________", "z_9_y_8_x_7_w_6_"} {
		wantTokens(t, text, name(0, text))
		wantTokens(t, text+";"+text, name(0, text), sign(len(text), ";"), name(len(text)+1, text))
	}
	for _, text := range []string{"abcdefghijklmnopq", "a1234567890123456", "a________________", "abcdefghijklmnop_", "abcdefghijklmnop0", strings.Repeat("a", 400), strings.Repeat("z", api.MaxText-6)} {
		wantNone(t, text, 0)
		wantNone(t, "b "+text+" b", 2)
	}
	// A byte that a name can't have ends it.
	wantNone(t, "abcA", 3)
	wantNone(t, "abcdefghijklmnop$", 16)
	wantTokens(t, "abcdefghijklmnop-1", name(0, "abcdefghijklmnop"), num(16, "-1", -1))
	wantNone(t, "_a", 0)
	wantNone(t, "_", 0)
	wantNone(t, "A", 0)
	wantNone(t, "5_", 1)
}

// P3.1: every word is one, and names that begin or end with a word, or are a part of one, aren't.
func TestLexWords(t *testing.T) {
	list := strings.Fields(words)
	if len(list) != 24 {
		t.Fatal(len(list))
	}
	for _, w := range list {
		wantTokens(t, w, word(0, w))
		wantTokens(t, "x "+w+"(", name(0, "x"), word(2, w), sign(2+len(w), "("))
		for _, n := range []string{w + "s", w + "_", w + "0", w + w, "x" + w, w[1:] + "q"} {
			wantTokens(t, n, name(0, n))
		}
		if beginning := w[:len(w)-1]; !slices.Contains(list, beginning) {
			wantTokens(t, beginning, name(0, beginning))
		}
		wantNone(t, strings.ToUpper(w), 0)
	}
	wantTokens(t, "fn if", word(0, "fn"), word(3, "if"))
	wantTokens(t, "fnif", name(0, "fnif"))
	wantTokens(t, "5if", num(0, "5", 5), word(1, "if"))
}

// P3.1: numbers, with their values, up to their bounds and beyond.
func TestLexNumbers(t *testing.T) {
	noughts := strings.Repeat("0", 5000)
	for text, n := range map[string]int64{
		"0": 0, "-0": 0, "7": 7, "-7": -7, "10": 10, "007": 7, "-007": -7, "1234567890": 1234567890,
		"1099511627775": 1<<40 - 1, "1099511627776": 1 << 40, "-1099511627775": 1 - 1<<40, "-1099511627776": -1 << 40,
		"0001099511627776": 1 << 40, "-0001099511627776": -1 << 40,
		noughts: 0, "-" + noughts + "12": -12, noughts + "1099511627776": 1 << 40, "-" + noughts + "1099511627776": -1 << 40,
	} {
		wantTokens(t, text, num(0, text, n))
		wantTokens(t, "{"+text+"x", sign(0, "{"), num(1, text, n), name(1+len(text), "x"))
	}
	for _, text := range []string{
		"1099511627777", "1099511627786", "1100000000000", "9999999999999", "10995116277760", "01099511627777", noughts + "1099511627777",
		// Of each of these 64 bits, or 32 of them, would keep a small rest.
		"18446744073709551616", "18446744073709551621", "9223372036854775808", "9223372036854775807", "36893488147419103232",
		"340282366920938463463374607431768211456", strings.Repeat("9", 5000), "1" + noughts,
	} {
		wantNone(t, text, 0)
		wantNone(t, "-"+text, 0)
		wantNone(t, "x -"+text+" y", 2)
	}
}

// P3.1: a - with a digit right behind it, and without; a - behind a number.
func TestLexMinus(t *testing.T) {
	wantTokens(t, "5-3", num(0, "5", 5), num(1, "-3", -3))
	wantTokens(t, "-5-3-0", num(0, "-5", -5), num(2, "-3", -3), num(4, "-0", 0))
	wantTokens(t, "a-3", name(0, "a"), num(1, "-3", -3))
	wantTokens(t, "=-3", sign(0, "="), num(1, "-3", -3))
	for text, at := range map[string]int{
		"-": 0, "- 5": 0, "--5": 0, "-x": 0, "-\n5": 0, "-\t5": 0, "-#5": 0, "-;": 0, "-_": 0,
		"5-": 1, "5 -": 2, "5--3": 1, "a-": 1, "-5-": 2, "5 - 3": 2, "=-": 1,
	} {
		wantNone(t, text, at)
	}
}

// P3.1: every sign, alone, and each beside each, with nothing between them.
func TestLexSigns(t *testing.T) {
	if len(signs) != 10 {
		t.Fatal(len(signs))
	}
	for _, a := range strings.Split(signs, "") {
		wantTokens(t, a, sign(0, a))
		for _, b := range strings.Split(signs, "") {
			wantTokens(t, a+b, sign(0, a), sign(1, b))
		}
	}
}

// P3.1: tokens with nothing between them, and the chapter's example.
func TestLexTogether(t *testing.T) {
	wantTokens(t, "x.*=-5;# a", name(0, "x"), sign(1, "."), sign(2, "*"), sign(3, "="), num(4, "-5", -5), sign(6, ";"))
	wantTokens(t, "5x", num(0, "5", 5), name(1, "x"))
	wantTokens(t, "5x5", num(0, "5", 5), name(1, "x5"))
	wantTokens(t, "let{x:int,y:box}", word(0, "let"), sign(3, "{"), name(4, "x"), sign(5, ":"), word(6, "int"), sign(9, ","), name(10, "y"), sign(11, ":"), word(12, "box"), sign(15, "}"))
	wantTokens(t, "a#\n-1(-2)b", name(0, "a"), num(3, "-1", -1), sign(5, "("), num(6, "-2", -2), sign(8, ")"), name(9, "b"))
}

// P3.1: of more than one thing that is none, the first is told.
func TestLexFirst(t *testing.T) {
	long := strings.Repeat("a", 17)
	for text, at := range map[string]int{
		"$ $": 0, "a $ -": 2, "a - $": 2, "a - " + long: 2, long + " -": 0, "1 " + long + " $": 2,
		"a 9999999999999 -": 2, "a - 9999999999999": 2, "a " + long + " 9999999999999": 2, "#$\n $ -": 4,
		"9999999999999$": 0, long + "$": 0, "a$" + long: 1,
	} {
		wantNone(t, text, at)
	}
}

// P1 and rule 4: what is answered is new, also if it is asked for again.
func TestLexAnew(t *testing.T) {
	text := "a b c d e"
	first, _ := lex.Lex(text)
	again, _ := lex.Lex(text)
	kept := slices.Clone(again)
	for i := range first {
		first[i] = lex.Token{}
	}
	clear(first[:cap(first)])
	if !slices.Equal(again, kept) {
		t.Error(again)
	}
}

// P3.2, Word: just the words.
func TestWord(t *testing.T) {
	for _, w := range strings.Fields(words) {
		if !lex.Word(w) {
			t.Error(w)
		}
		for _, s := range []string{w + " ", " " + w, w + "s", w[1:] + "q", strings.ToUpper(w), strings.ToUpper(w[:1]) + w[1:], w + "\n", w + "\x00", w + w, w + " " + w, w + "#"} {
			if lex.Word(s) {
				t.Errorf("%q", s)
			}
		}
	}
	for _, s := range append([]string{"", " ", "\t", "a", "A", "name", "main", "5", "-5", "#", "_", "true", "func", "boxes", "in", "f", "string", words, "Ж", "\xff"}, strings.Split(signs, "")...) {
		if lex.Word(s) {
			t.Errorf("%q", s)
		}
	}
}

// P3.2, Name: a name, and no word.
func TestName(t *testing.T) {
	for _, s := range []string{"a", "z", "a0", "a_", "a_0", "boxes", "fn_", "xfn", "main", "abcdefghijklmnop", "a_______________", "a123456789012345"} {
		if !lex.Name(s) {
			t.Errorf("%q", s)
		}
	}
	for _, s := range strings.Fields(words) {
		if lex.Name(s) {
			t.Errorf("%q", s)
		}
	}
	for _, s := range []string{
		"", " ", "\t", "\n", "   ", "A", "aB", "Abc", "ABC", "_", "_a", "0", "0a", "5", "-5", "-", "a b", " a", "a ", "a\n", "\ta", "a;", "a.b", "a-", "a-b", "a#", "#a", "#",
		"abcdefghijklmnopq", "abcdefghijklmnop ", "abcdefghijklmnop_", "a\x00", "\x00", "é", "aé", "a\xff", ";", "=", strings.Repeat("a", 100000), "fn a", "a fn",
	} {
		if lex.Name(s) {
			t.Errorf("%q", short(s))
		}
	}
}

// P3.2, Join: of no token, of one and of many; the texts alone count.
func TestJoin(t *testing.T) {
	for _, c := range []struct {
		want string
		list []lex.Token
	}{
		{"", nil},
		{"", []lex.Token{}},
		{"", []lex.Token{{}}},
		{"a", []lex.Token{name(7, "a")}},
		{"-5", []lex.Token{num(0, "-5", 12)}},
		{"a b", []lex.Token{name(0, "a"), name(0, "b")}},
		{"x . * = -5 ;", []lex.Token{name(0, "x"), sign(1, "."), sign(2, "*"), sign(3, "="), num(4, "-5", -5), sign(6, ";")}},
		// Texts that Lex would not make are joined as they stand.
		{"  ", []lex.Token{{}, {}, {}}},
		{" a \x00\xff  ", []lex.Token{{Text: ""}, {Text: "a"}, {Text: "\x00\xff"}, {Text: " "}}},
		{"$ # \n", []lex.Token{{Kind: -9, At: math.MinInt, Text: "$", N: math.MaxInt64}, {Kind: 77, Text: "#"}, {Text: "\n"}}},
	} {
		if got := lex.Join(c.list...); got != c.want {
			t.Errorf("Join(%v): %q, want %q", c.list, got, c.want)
		}
	}
	if lex.Join() != "" {
		t.Error("Join of nothing")
	}
	many := make([]lex.Token, 3000)
	for i := range many {
		many[i] = name(i, "ab")
	}
	if got := lex.Join(many...); got != strings.Repeat("ab ", 2999)+"ab" {
		t.Error(len(got))
	}
	if many[0] != name(0, "ab") || many[2999] != name(2999, "ab") {
		t.Error("Join changed what it was handed")
	}
}
