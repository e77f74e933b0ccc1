package kind_test

import (
	"strings"
	"testing"

	"drogue/kind"
)

const words = "struct enum fn let safe hook int box ref mut add sub less use new tag out goto if match check call catch return"

// want is what the calls are to answer of a text; noughts: it is no type.
type want struct {
	kind       int
	elem, base string
	deep       int
	plain      bool
}

// boxes: so many boxes in front of a text.
func boxes(n int, t string) string { return strings.Repeat("box ", n) + t }

// short: enough of a text to know it by.
func short(t string) string { return t[:min(len(t), 60)] }

// wantType: P4.1 and P4.2 of one text: what is answered of it, and what comes of it with something in front.
func wantType(t *testing.T, text string, w want) {
	t.Helper()
	if got := kind.Kind(text); got != w.kind {
		t.Errorf("Kind(%q): %d, want %d", short(text), got, w.kind)
	}
	if got := kind.Plain(text); got != w.plain {
		t.Errorf("Plain(%q): %v", short(text), got)
	}
	if got := kind.Deep(text); got != w.deep {
		t.Errorf("Deep(%q): %d, want %d", short(text), got, w.deep)
	}
	wantText(t, "Elem", text, kind.Elem, w.elem)
	wantText(t, "Base", text, kind.Base, w.base)
	box, ref, mut := "", "", ""
	if w.plain {
		ref, mut = "ref "+text, "mut "+text
	}
	if w.plain && w.deep < 8 {
		box = "box " + text
	}
	wantText(t, "Box", text, kind.Box, box)
	wantText(t, "Ref", text, kind.Ref, ref)
	wantText(t, "Mut", text, kind.Mut, mut)
}

// wantText: a call answers a text, and true; of no signs false.
func wantText(t *testing.T, name, text string, call func(string) (string, bool), w string) {
	t.Helper()
	if got, ok := call(text); got != w || ok != (w != "") {
		t.Errorf("%s(%q): %q %v, want %q", name, short(text), got, ok, w)
	}
}

func wantNone(t *testing.T, list ...string) {
	t.Helper()
	for _, text := range list {
		wantType(t, text, want{})
	}
}

// The constants are as the chapter has them.
func TestKinds(t *testing.T) {
	for i, k := range []int{kind.KNone, kind.KInt, kind.KName, kind.KBox, kind.KRef, kind.KMut} {
		if k != i {
			t.Error(i, k)
		}
	}
}

// P4.1, P4.2: int, and names of 1 to 16 bytes; of 17 they are none.
func TestEnds(t *testing.T) {
	wantType(t, "int", want{kind.KInt, "", "int", 0, true})
	for _, name := range []string{"a", "z", "pair", "a0", "a_1", "a_", "ints", "int_", "xint", "boxes", "box_", "box1", "ref_a", "muta", "main", "abcdefghijklmnop", "a_______________", "a123456789012345"} {
		wantType(t, name, want{kind.KName, "", name, 0, true})
	}
	for _, name := range []string{"abcdefghijklmnopq", "a________________", "a1234567890123456", "intintintintintin", "boxboxboxboxboxbo", strings.Repeat("a", 100000)} {
		wantNone(t, name, "box "+name, "ref "+name, "mut "+name, boxes(8, name))
	}
}

// P4.1, P4.2: of the words int alone is a type, and at a type's end.
func TestWords(t *testing.T) {
	list := strings.Fields(words)
	if len(list) != 24 {
		t.Fatal(len(list))
	}
	for _, w := range list {
		if w == "int" {
			continue
		}
		wantNone(t, w, w+" ", "box "+w, "ref "+w, "mut "+w, "ref box "+w, boxes(8, w))
		if w != "box" && w != "ref" && w != "mut" {
			wantNone(t, w+" int", w+" a", "box "+w+" int")
		}
		wantType(t, w+"s", want{kind.KName, "", w + "s", 0, true})
	}
}

// P4.1, P4.2: each of box, ref and mut, of int and of names, with 0 to 8 boxes; with 9 and more it is none.
func TestFronts(t *testing.T) {
	for _, base := range []string{"int", "a", "pair", "abcdefghijklmnop"} {
		for n := 1; n <= 8; n++ {
			wantType(t, boxes(n, base), want{kind.KBox, boxes(n-1, base), base, n, true})
		}
		for n := 0; n <= 8; n++ {
			wantType(t, "ref "+boxes(n, base), want{kind.KRef, boxes(n, base), base, n, false})
			wantType(t, "mut "+boxes(n, base), want{kind.KMut, boxes(n, base), base, n, false})
		}
		for _, n := range []int{9, 10, 16, 17, 255, 256, 257, 264, 100000} {
			wantNone(t, boxes(n, base), "ref "+boxes(n, base), "mut "+boxes(n, base))
		}
	}
	wantType(t, "mut box int", want{kind.KMut, "box int", "int", 1, false})
}

// P4.1, P4.2: below a box, a ref or a mut there is no ref and no mut.
func TestBelow(t *testing.T) {
	for _, lent := range []string{"ref ", "mut "} {
		for _, base := range []string{"int", "a", "box int", boxes(7, "a"), boxes(8, "a")} {
			wantNone(t, "box "+lent+base, "ref "+lent+base, "mut "+lent+base)
			wantNone(t, "ref box "+lent+base, "mut box "+lent+base, boxes(7, lent+base), boxes(8, lent+base))
		}
		wantNone(t, strings.Repeat(lent, 100000)+"int", strings.Repeat("box "+lent, 5)+"int")
	}
	wantNone(t, "ref mut ref int", "box ref", "ref mut", "mut ref ", "int ref int", "a mut int")
}

// P4.1, P4.2: no byte, blanks alone, a blank ahead, behind, or two between; nothing behind a front; other bytes.
func TestNone(t *testing.T) {
	wantNone(t, "", " ", "  ", "   ", strings.Repeat(" ", 100000), "\t", "\n", "\x00")
	for _, text := range []string{"int", "a", "abcdefghijklmnop", "box int", "box a", "ref int", "mut a", boxes(8, "int"), "mut " + boxes(8, "a")} {
		wantNone(t, " "+text, text+" ", " "+text+" ", "  "+text, text+"  ")
		for _, other := range []string{"\t", "\n", "\r", "\x00", "\xff", ".", "-", "*", ";", "#", "# a", ",", "(", "é", "A", " int", " a", " box", "\u00a0"} {
			wantNone(t, text+other)
			wantNone(t, strings.TrimSpace(other)+"$"+text)
		}
	}
	for _, front := range []string{"box", "ref", "mut"} {
		wantNone(t, front, front+" ", front+"  ", " "+front, " "+front+" ", "box "+front, "box "+front+" ", "ref "+front, boxes(7, front), boxes(8, front), boxes(8, ""))
		for _, between := range []string{"  ", "   ", "\t", "\n", "\r", "\x00", " \t", "\t ", "#\n", ".", "_ ", "\u00a0"} {
			wantNone(t, front+between+"int", front+between+"a", "box "+front+between+"int", "ref "+front+between+"a", front+between+"box int")
		}
		wantNone(t, strings.ToUpper(front)+" int", strings.ToUpper(front[:1])+front[1:]+" a", front+" Int", front+" 5", front+" _", front+" -1", front+" *", front+" int int", front+" a b", front+" int box", front+" a.b")
		// Without the blank it is a name.
		wantType(t, front+"int", want{kind.KName, "", front + "int", 0, true})
	}
	wantNone(t, "Int", "INT", "Pair", "aB", "_", "_a", "0", "5", "5a", "-5", "*", "a b", "a.b", "int int", "a int", "int a", "int box", "é", "\xff", "a\xff", "#", "a#", "box #int", "boxint int")
}

// P4.2, with the calls one upon the other: from no box up to 8, and a ref or a mut only at the end.
func TestGrow(t *testing.T) {
	for _, base := range []string{"int", "pair"} {
		text := base
		for n := range 8 {
			for _, call := range []func(string) (string, bool){kind.Ref, kind.Mut} {
				lent, ok := call(text)
				if elem, is := kind.Elem(lent); !ok || !is || elem != text {
					t.Errorf("%q: %q %v, of which the Elem is %q %v", text, lent, ok, elem, is)
				}
				wantText(t, "Box", lent, kind.Box, "")
				wantText(t, "Ref", lent, kind.Ref, "")
				wantText(t, "Mut", lent, kind.Mut, "")
			}
			wantText(t, "Box", text, kind.Box, boxes(n+1, base))
			text, _ = kind.Box(text)
		}
		wantText(t, "Box", text, kind.Box, "")
		wantText(t, "Ref", text, kind.Ref, "ref "+boxes(8, base))
		wantText(t, "Mut", text, kind.Mut, "mut "+boxes(8, base))
	}
}
