package kind_test

import (
	"math/rand"
	"regexp"
	"slices"
	"strings"
	"testing"

	"drogue/kind"
)

var shape = regexp.MustCompile(`\A(ref |mut )?((?:box )*)([a-z][a-z0-9_]{0,15})\z`)

// model: what is to be answered of a text, by the chapter's shape of a type.
func model(text string) want {
	found := shape.FindStringSubmatch(text)
	if found == nil {
		return want{}
	}
	lent, row, base := found[1], found[2], found[3]
	deep := len(row) / len("box ")
	if deep > 8 || base != "int" && slices.Contains(strings.Fields(words), base) {
		return want{}
	}
	w := want{base: base, deep: deep, plain: lent == ""}
	switch {
	case lent == "ref ":
		w.kind, w.elem = kind.KRef, row+base
	case lent == "mut ":
		w.kind, w.elem = kind.KMut, row+base
	case deep > 0:
		w.kind, w.elem = kind.KBox, row[len("box "):]+base
	case base == "int":
		w.kind = kind.KInt
	default:
		w.kind = kind.KName
	}
	return w
}

var (
	fronts = []string{"", "", "ref ", "mut "}
	ends   = append(strings.Fields(words), "int", "int", "a", "pair", "b_1", "abcdefghijklmnop", "abcdefghijklmnopq", "", "5", "boxes", "A")
	others = []string{" ", "  ", "\t", "\n", "ref ", "mut ", "box ", "box", "\x00", "\xff", "#", "_", "int", "a", "$"}
)

// someText: nearly a type, or one.
func someText(r *rand.Rand) string {
	text := fronts[r.Intn(len(fronts))] + boxes(r.Intn(11), ends[r.Intn(len(ends))])
	for r.Intn(4) == 0 {
		at := r.Intn(len(text) + 1)
		text = text[:at] + others[r.Intn(len(others))] + text[at:]
	}
	if r.Intn(10) == 0 {
		text = text[:r.Intn(len(text)+1)]
	}
	return text
}

// someBytes: any bytes.
func someBytes(r *rand.Rand) string {
	b := make([]byte, r.Intn(30))
	r.Read(b)
	return string(b)
}

// P4.1 and P4.2, beside a plain model.
func TestModel(t *testing.T) {
	r := rand.New(rand.NewSource(4))
	types := 0
	for range 40000 {
		text := someText(r)
		w := model(text)
		wantType(t, text, w)
		if w.kind != kind.KNone {
			types++
		}
		if t.Failed() {
			return
		}
	}
	if types < 5000 || types > 35000 {
		t.Error("too few, or too many, texts are types:", types)
	}
}

// P1: no call panics, whatever it is handed, and it answers as it should.
func TestAnyBytes(t *testing.T) {
	r := rand.New(rand.NewSource(44))
	for range 20000 {
		for _, text := range []string{someBytes(r), "box " + someBytes(r), someText(r) + someBytes(r)} {
			wantType(t, text, model(text))
		}
	}
}
