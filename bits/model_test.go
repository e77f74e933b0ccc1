package bits_test

import (
	"math"
	"slices"
	"testing"

	"drogue/bits"
)

// model is the chapter's words, done as plainly as may be: which numbers are in it.
type model struct {
	bound int
	in    map[int]bool
}

func (m *model) add(n int) bool {
	if n < 0 || n >= m.bound || m.in[n] {
		return false
	}
	m.in[n] = true
	return true
}

func (m *model) cut(n int) bool {
	was := m.in[n]
	delete(m.in, n)
	return was
}

func (m *model) numbers() []int {
	var list []int
	for n := range m.bound {
		if m.in[n] {
			list = append(list, n)
		}
	}
	return list
}

// merge: each number within the bound stays, comes or goes as keep says.
func (m *model) merge(o *model, keep func(own, other bool) bool) bool {
	changed := false
	for n := range m.bound {
		now := keep(m.in[n], o.in[n])
		changed = changed || now != m.in[n]
		m.in[n] = now
	}
	return changed
}

func (m *model) same(o *model) bool { return slices.Equal(m.numbers(), o.numbers()) }

func (m *model) apart(o *model) bool {
	for _, n := range m.numbers() {
		if o.in[n] {
			return false
		}
	}
	return true
}

func modelStep(s, o *bits.Set, m, w *model, what, n int) (got, want bool) {
	switch what {
	case 0, 1, 2:
		return s.Add(n), m.add(n)
	case 3:
		return s.Cut(n), m.cut(n)
	case 4:
		return s.Join(o), m.merge(w, func(x, y bool) bool { return x || y })
	case 5:
		return s.Meet(o), m.merge(w, func(x, y bool) bool { return x && y })
	case 6:
		return s.Less(o), m.merge(w, func(x, y bool) bool { return x && !y })
	case 7:
		s.Fill()
		m.merge(w, func(x, y bool) bool { return true })
	}
	return bits.Same(s, o) && !bits.Apart(s, o), m.same(w) && !m.apart(w)
}

// TestModel: sets and their models, handed the same, answer the same (P2.1 to P2.3).
func TestModel(t *testing.T) {
	for seed := range uint32(60) {
		rnd := seed*2654435761 + 12345
		next := func(n int) int {
			rnd = rnd*1664525 + 1013904223
			return int(rnd>>16) % n
		}
		var sets []*bits.Set
		var models []*model
		for range 4 {
			b := next(140)
			sets = append(sets, bits.New(b))
			models = append(models, &model{b, map[int]bool{}})
		}
		for step := range 300 {
			i, j, what, n := next(4), next(4), next(9), next(150)-5
			got, want := modelStep(sets[i], sets[j], models[i], models[j], what, n)
			if got != want {
				t.Fatal(seed, step, what, n, got)
			}
			for k, s := range sets {
				if !slices.Equal(numbers(s), models[k].numbers()) || s.Len() != len(numbers(s)) || s.Has(n) != models[k].in[n] {
					t.Fatal(seed, step, what, n, numbers(s))
				}
				if bits.Same(s, sets[i]) != models[k].same(models[i]) || bits.Apart(s, sets[i]) != models[k].apart(models[i]) {
					t.Fatal(seed, step, "Same, Apart", numbers(s), numbers(sets[i]))
				}
			}
		}
	}
}

// P1: all calls end, and none panics, at numbers of all kinds; and the same answers come again.
func TestAnyArguments(t *testing.T) {
	far := []int{0, 1, -1, 63, 64, 65, 4095, 4096, 65535, 65536, 65537, 1 << 31, 1 << 32, 1 << 62, -1 << 62, math.MaxInt, math.MinInt}
	for _, b := range far {
		s := bits.New(b, far...)
		if again := bits.New(b, far...); again.Bound() != s.Bound() || !bits.Same(s, again) {
			t.Error("New twice:", b)
		}
		for _, n := range far {
			o := bits.New(n, far...)
			inside := n >= 0 && n < s.Bound()
			s.Add(n)
			wantBool(t, "Has", s.Has(n), inside)
			wantBool(t, "Cut", s.Cut(n), inside)
			s.Join(o)
			bits.Same(s, o)
			bits.Apart(s, o)
			s.Less(o)
			s.Fill()
			s.Meet(o)
			if s.Len() > s.Bound() || s.Bound() > 65536 || s.Bound() < 0 {
				t.Error(b, n, s.Len(), s.Bound())
			}
		}
	}
}
