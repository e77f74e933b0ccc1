package bits_test

import (
	"math"
	"slices"
	"testing"

	"drogue/bits"
)

// The edges of words and of the greatest bound.
var bounds = []int{0, 1, 2, 5, 63, 64, 65, 127, 128, 129, 200, 65535, 65536}

func numbers(s *bits.Set) []int {
	var list []int
	for n := range s.All() {
		list = append(list, n)
	}
	return list
}

// wantSet: a set has this bound and these numbers (which rise), by every call that tells of them.
func wantSet(t *testing.T, what string, s *bits.Set, bound int, want ...int) {
	t.Helper()
	if s.Bound() != bound {
		t.Errorf("%s: Bound %d, want %d", what, s.Bound(), bound)
	}
	if got := numbers(s); !slices.Equal(got, want) {
		t.Errorf("%s: All %v, want %v", what, got, want)
	}
	if s.Len() != len(want) {
		t.Errorf("%s: Len %d, want %d", what, s.Len(), len(want))
	}
	for n := -2; n < min(bound, 300)+70; n++ {
		if _, in := slices.BinarySearch(want, n); s.Has(n) != in {
			t.Errorf("%s: Has(%d) %v", what, n, !in)
		}
	}
}

func wantBool(t *testing.T, what string, got, want bool) {
	t.Helper()
	if got != want {
		t.Errorf("%s: %v, want %v", what, got, want)
	}
}

// whole: the numbers within a bound.
func whole(bound int) []int {
	var list []int
	for n := range bound {
		list = append(list, n)
	}
	return list
}

// P2.1, New: the bound, also below 0 and beyond 65,536.
func TestNewBound(t *testing.T) {
	for _, c := range []struct{ bound, want int }{
		{math.MinInt, 0}, {-65536, 0}, {-64, 0}, {-1, 0}, {0, 0}, {1, 1}, {64, 64}, {65535, 65535}, {65536, 65536},
		{65537, 65536}, {70000, 65536}, {1 << 31, 65536}, {1 << 32, 65536}, {1<<32 + 5, 65536}, {math.MaxInt, 65536},
	} {
		wantSet(t, "New", bits.New(c.bound), c.want)
	}
}

// P2.1, New: of the numbers those that are within the bound, each once, in whatever order.
func TestNewNumbers(t *testing.T) {
	wantSet(t, "example", bits.New(5, 3, 9, 1), 5, 1, 3)
	wantSet(t, "again", bits.New(5, 3, 3, 1, 3), 5, 1, 3)
	wantSet(t, "edges", bits.New(5, 4, 5, 0, -1, 6), 5, 0, 4)
	wantSet(t, "bound 0", bits.New(0, 0, -1, 1), 0)
	wantSet(t, "below 0", bits.New(-9, -9, -1, 0, 1), 0)
	wantSet(t, "beyond", bits.New(70000, 65535, 65536, 69999), 65536, 65535)
	wantSet(t, "far", bits.New(100, math.MinInt, math.MaxInt, 1<<32, 1<<32+1, -1<<32), 100)
	wantSet(t, "nil list", bits.New(7, []int(nil)...), 7)
	wantSet(t, "empty list", bits.New(7, []int{}...), 7)
	for _, b := range bounds {
		if b > 0 {
			wantSet(t, "last", bits.New(b, b-1, b), b, b-1)
		}
	}
}

// P2.1, New: the list that is handed in is neither changed nor kept.
func TestNewKeepsNothing(t *testing.T) {
	list := []int{3, 1, 9, 2, 50}
	s := bits.New(10, list[:3]...)
	if !slices.Equal(list, []int{3, 1, 9, 2, 50}) {
		t.Error("New changed its list:", list)
	}
	list[0], list[1] = 5, 6
	s.Add(4)
	wantSet(t, "New", s, 10, 1, 3, 4, 9)
	if !slices.Equal(list, []int{5, 6, 9, 2, 50}) {
		t.Error("Add changed the list:", list)
	}
}

// P2.1, Has, Add, Cut: each number alone, at the edges of each bound.
func TestAddCut(t *testing.T) {
	for _, b := range bounds {
		s := bits.New(b)
		for _, n := range []int{0, 1, 62, 63, 64, 65, 127, 128, b - 2, b - 1} {
			if n < 0 || n >= b {
				continue
			}
			wantBool(t, "Cut of none", s.Cut(n), false)
			wantBool(t, "Add", s.Add(n), true)
			wantSet(t, "Add", s, b, n)
			wantBool(t, "Add again", s.Add(n), false)
			wantSet(t, "Add again", s, b, n)
			wantBool(t, "Cut", s.Cut(n), true)
			wantSet(t, "Cut", s, b)
			wantBool(t, "Cut again", s.Cut(n), false)
		}
	}
}

// P2.1: numbers outside of the bound change nothing, and aren't in it.
func TestOutside(t *testing.T) {
	far := []int{-1, -2, -63, -64, -65, -65536, math.MinInt, math.MinInt + 1, 65536, 65537, 1 << 31, 1 << 32, 1<<32 + 1, 1 << 62, math.MaxInt}
	for _, b := range bounds {
		for _, full := range []bool{false, true} {
			s := bits.New(b)
			if full {
				s.Fill()
			}
			before := numbers(s)
			for _, n := range append([]int{b, b + 1, b + 63, b + 64}, far...) {
				wantBool(t, "Has", s.Has(n), false)
				wantBool(t, "Add", s.Add(n), false)
				wantBool(t, "Cut", s.Cut(n), false)
				wantBool(t, "Has behind", s.Has(n), false)
			}
			wantSet(t, "outside", s, b, before...)
		}
	}
}

// P2.1: one number's coming and going leaves the others.
func TestAddCutOthers(t *testing.T) {
	s := bits.New(130, 0, 63, 64, 129)
	wantBool(t, "Add", s.Add(65), true)
	wantBool(t, "Cut", s.Cut(64), true)
	wantBool(t, "Add", s.Add(128), true)
	wantBool(t, "Cut", s.Cut(0), true)
	wantSet(t, "others", s, 130, 63, 65, 128, 129)
}

// twoSets is what two sets make up, told by Join, Meet and Less of the first one.
type twoSets struct {
	name             string
	a, b             *bits.Set
	join, meet, less []int
}

func twos() []twoSets {
	n := bits.New
	return []twoSets{
		{"the same bound", n(10, 1, 2, 3), n(10, 3, 4), []int{1, 2, 3, 4}, []int{3}, []int{1, 2}},
		{"the other's is greater", n(5, 1, 4), n(300, 4, 3, 5, 63, 64, 299), []int{1, 3, 4}, []int{4}, []int{1}},
		{"the other's is less", n(300, 4, 3, 5, 63, 64, 299), n(5, 1, 4), []int{1, 3, 4, 5, 63, 64, 299}, []int{4}, []int{3, 5, 63, 64, 299}},
		{"in one word", n(70, 65, 69), n(80, 69, 70, 79), []int{65, 69}, []int{69}, []int{65}},
		{"in one word, the other way", n(80, 69, 70, 79), n(70, 65, 69), []int{65, 69, 70, 79}, []int{69}, []int{70, 79}},
		{"a word's whole size", n(64, 0, 63), n(128, 63, 64, 127), []int{0, 63}, []int{63}, []int{0}},
		{"a word's whole size, the other way", n(128, 63, 64, 127), n(64, 0, 63), []int{0, 63, 64, 127}, []int{63}, []int{64, 127}},
		{"none in it", n(9), n(9, 2, 8), []int{2, 8}, nil, nil},
		{"none in the other", n(9, 2, 8), n(9), []int{2, 8}, nil, []int{2, 8}},
		{"all is behind the bound", n(9, 2), n(70, 9, 10, 69), []int{2}, nil, []int{2}},
		{"bound 0", n(0), n(70, 0, 69), nil, nil, nil},
		{"the other's bound 0", n(70, 0, 69), n(0), []int{0, 69}, nil, []int{0, 69}},
		{"both bound 0", n(0), n(-5, 1), nil, nil, nil},
		{"the greatest bounds", n(65536, 0, 65535), n(70000, 65535, 65534), []int{0, 65534, 65535}, []int{65535}, []int{0}},
		{"the same numbers", n(100, 7, 99), n(200, 7, 99), []int{7, 99}, []int{7, 99}, nil},
	}
}

// P2.2, Join, Meet and Less: what the set has, whether it changed, and that the other one stays as it is.
func TestTwoSets(t *testing.T) {
	for _, c := range twos() {
		for _, w := range []struct {
			what string
			call func(own, other *bits.Set) bool
			want []int
		}{{"Join", (*bits.Set).Join, c.join}, {"Meet", (*bits.Set).Meet, c.meet}, {"Less", (*bits.Set).Less, c.less}} {
			name := c.name + ": " + w.what
			own, other := c.a.Clone(), numbers(c.b)
			wantBool(t, name, w.call(own, c.b), !slices.Equal(numbers(c.a), w.want))
			wantSet(t, name, own, c.a.Bound(), w.want...)
			wantBool(t, name+" again", w.call(own, c.b), false)
			wantSet(t, name+" again", own, c.a.Bound(), w.want...)
			wantSet(t, name+", the other", c.b, c.b.Bound(), other...)
		}
	}
}

// P2.2: what comes by Join from behind the bound isn't there later either.
func TestJoinLeavesNothingBehind(t *testing.T) {
	s := bits.New(5, 1)
	wide := bits.New(64)
	wide.Fill()
	wantBool(t, "Join", s.Join(wide), true)
	wantSet(t, "Join", s, 5, 0, 1, 2, 3, 4)
	wantBool(t, "Join into the wide one", bits.New(64, 0, 1, 2, 3, 4).Join(s), false)
	wantBool(t, "Same", bits.Same(s, bits.New(64, 0, 1, 2, 3, 4)), true)
	wantBool(t, "Apart", bits.Apart(s, bits.New(64, 5, 6, 63)), true)
	wantBool(t, "Meet", wide.Meet(s), true)
	wantSet(t, "Meet", wide, 64, 0, 1, 2, 3, 4)
}

// P2.2 and P2.3: a set that is handed to itself.
func TestItself(t *testing.T) {
	for _, b := range bounds {
		s := bits.New(b, 0, b/2, b-1)
		want := numbers(s)
		wantBool(t, "Join", s.Join(s), false)
		wantSet(t, "Join", s, b, want...)
		wantBool(t, "Meet", s.Meet(s), false)
		wantSet(t, "Meet", s, b, want...)
		wantBool(t, "Same", bits.Same(s, s), true)
		wantBool(t, "Apart", bits.Apart(s, s), b == 0)
		wantSet(t, "Apart", s, b, want...)
		wantBool(t, "Less", s.Less(s), b > 0)
		wantSet(t, "Less", s, b)
		wantBool(t, "Less again", s.Less(s), false)
		wantBool(t, "Apart of none", bits.Apart(s, s), true)
	}
}

// P2.2, Fill: all numbers within the bound, and none behind it.
func TestFill(t *testing.T) {
	for _, b := range bounds {
		s := bits.New(b, 1, 3)
		s.Fill()
		wantSet(t, "Fill", s, b, whole(b)...)
		s.Fill()
		wantSet(t, "Fill again", s, b, whole(b)...)
		// Behind the bound there is nothing, in what other sets see either.
		wide := bits.New(65536)
		wide.Join(s)
		wantSet(t, "Fill, joined", wide, 65536, whole(b)...)
		wide.Fill()
		wide.Less(s)
		wantBool(t, "Apart", bits.Apart(wide, s), true)
		if wide.Len() != 65536-b {
			t.Error("Fill, less:", wide.Len(), b)
		}
	}
}

// P2.3, All: rising, across words.
func TestAll(t *testing.T) {
	s := bits.New(65536, 65535, 129, 64, 63, 0, 300, 128, 4096)
	wantSet(t, "All", s, 65536, 0, 63, 64, 128, 129, 300, 4096, 65535)
	for range bits.New(0).All() {
		t.Error("a number of none")
	}
	for range bits.New(500).All() {
		t.Error("a number of none")
	}
}

// P2.3, All: as they were when it began, whatever changes meanwhile.
func TestAllBegins(t *testing.T) {
	s := bits.New(200, 1, 70, 150)
	all := s.All()
	s.Add(2)
	s.Cut(70)
	var got []int
	for n := range all {
		got = append(got, n)
		s.Add(n + 1)
		s.Add(199)
		s.Cut(150)
		s.Cut(2)
	}
	if want := []int{1, 2, 150}; !slices.Equal(got, want) {
		t.Errorf("All while it changes: %v, want %v", got, want)
	}
	wantSet(t, "behind", s, 200, 1, 3, 151, 199)
	got = nil
	for n := range all {
		got = append(got, n)
		s.Less(s)
		s.Fill()
	}
	if want := []int{1, 3, 151, 199}; !slices.Equal(got, want) {
		t.Errorf("All anew: %v, want %v", got, want)
	}
	if s.Len() != 200 || !slices.Equal(slices.Collect(all), whole(200)) {
		t.Error("All anew, of all:", s.Len())
	}
}

// P2.3, All: it may be left early, and be gone through within itself; it begins anew each time.
func TestAllLeft(t *testing.T) {
	s := bits.New(300, 3, 5, 64, 299)
	all := s.All()
	for stop := range 4 {
		var got []int
		for n := range all {
			got = append(got, n)
			if len(got) == stop+1 {
				break
			}
		}
		if want := []int{3, 5, 64, 299}[:stop+1]; !slices.Equal(got, want) {
			t.Errorf("All, left: %v, want %v", got, want)
		}
	}
	sum := 0
	for range all {
		for n := range all {
			sum += n
		}
		s.Cut(5)
	}
	if sum != 4*(3+64+299)+5 {
		t.Error("All within itself:", sum)
	}
	calls := 0
	all(func(int) bool {
		calls++
		return false
	})
	if calls != 1 {
		t.Error("All went on behind its end:", calls)
	}
}

// P2.3, Clone: the same in all, and neither sees what becomes of the other.
func TestClone(t *testing.T) {
	for _, b := range bounds {
		s := bits.New(b, 0, 2, b-1)
		want := numbers(s)
		c := s.Clone()
		if c == s {
			t.Fatal("a clone is the set itself")
		}
		wantSet(t, "Clone", c, b, want...)
		s.Fill()
		wantSet(t, "Clone, its original filled", c, b, want...)
		s.Less(s)
		wantSet(t, "Clone, its original empty", c, b, want...)
		c.Fill()
		wantSet(t, "the original of one filled", s, b)
		wantSet(t, "Clone filled", c, b, whole(b)...)
		wantBool(t, "Cut", c.Cut(b-1), b > 0)
		wantBool(t, "Add", c.Add(b), false)
		wantSet(t, "the original", s, b)
	}
	s := bits.New(100, 5)
	c := s.Clone()
	c.Add(6)
	s.Add(7)
	s.Cut(5)
	wantSet(t, "the original", s, 100, 7)
	wantSet(t, "Clone", c, 100, 5, 6)
}

// P2.3, Same and Apart: whatever their bounds, either way round.
func TestSameApart(t *testing.T) {
	n := bits.New
	for i, c := range []struct {
		a, b        *bits.Set
		same, apart bool
	}{
		{n(5, 1, 3), n(5, 1, 3), true, false},
		{n(5, 1, 3), n(5, 1, 4), false, false},
		{n(5, 1, 3), n(5, 0, 4), false, true},
		{n(5, 1, 3), n(65536, 1, 3), true, false},
		{n(5, 1, 3), n(65536, 1, 3, 65535), false, false},
		{n(5, 1, 3), n(65536, 2, 65535), false, true},
		{n(64, 63), n(65, 63), true, false},
		{n(64, 63), n(65, 63, 64), false, false},
		{n(64, 63), n(65, 64), false, true},
		{n(64), n(65, 64), false, true},
		{n(70, 1, 69), n(80, 1, 70), false, false},
		{n(0), n(0), true, true},
		{n(0), n(65536), true, true},
		{n(7), n(300, 299), false, true},
		{n(200, 100, 150), n(130, 100), false, false},
	} {
		before := [][]int{numbers(c.a), numbers(c.b)}
		for _, x := range [][2]*bits.Set{{c.a, c.b}, {c.b, c.a}} {
			if bits.Same(x[0], x[1]) != c.same || bits.Apart(x[0], x[1]) != c.apart {
				t.Error(i, numbers(x[0]), numbers(x[1]))
			}
		}
		wantSet(t, "first", c.a, c.a.Bound(), before[0]...)
		wantSet(t, "second", c.b, c.b.Bound(), before[1]...)
	}
}
