package slab_test

import (
	"math"
	"slices"
	"testing"

	"drogue/api"
	"drogue/slab"
)

// addr is the chapter's sum, written out anew so that the tests don't lean on the package's own.
func addr(age, index, place int) slab.Addr {
	return slab.Addr(1<<62 + age*4294967296 + index*4096 + place)
}

func newSlab(t *testing.T, room int) *slab.Slab {
	t.Helper()
	s, e := slab.New(room)
	if e != api.OK || s == nil {
		t.Fatalf("New(%d): %v", room, e)
	}
	return s
}

func get(t *testing.T, s *slab.Slab, slots int) slab.Addr {
	t.Helper()
	a, e := s.Get(slots)
	if e != api.OK {
		t.Fatalf("Get(%d): %v", slots, e)
	}
	return a
}

func wantGet(t *testing.T, s *slab.Slab, slots int, want slab.Addr, errno api.Errno) {
	t.Helper()
	if a, e := s.Get(slots); a != want || e != errno {
		t.Errorf("Get(%d) = %d, %v; want %d, %v", slots, a, e, want, errno)
	}
}

func wantErr(t *testing.T, what string, got, want api.Errno) {
	t.Helper()
	if got != want {
		t.Errorf("%s: %v, want %v", what, got, want)
	}
}

func wantLoad(t *testing.T, s *slab.Slab, a slab.Addr, v int64, errno api.Errno) {
	t.Helper()
	if n, e := s.Load(a); n != v || e != errno {
		t.Errorf("Load(%d) = %d, %v; want %d, %v", a, n, e, v, errno)
	}
}

func wantOff(t *testing.T, s *slab.Slab, a slab.Addr, slots int, want slab.Addr, errno api.Errno) {
	t.Helper()
	if b, e := s.Off(a, slots); b != want || e != errno {
		t.Errorf("Off(%d, %d) = %d, %v; want %d, %v", a, slots, b, e, want, errno)
	}
}

func wantSize(t *testing.T, s *slab.Slab, a slab.Addr, n int, errno api.Errno) {
	t.Helper()
	if m, e := s.Size(a); m != n || e != errno {
		t.Errorf("Size(%d) = %d, %v; want %d, %v", a, m, e, n, errno)
	}
}

func wantCounts(t *testing.T, s *slab.Slab, live, used int) {
	t.Helper()
	if s.Live() != live || s.Used() != used {
		t.Errorf("Live %d, Used %d; want %d, %d", s.Live(), s.Used(), live, used)
	}
}

type piece struct {
	first slab.Addr
	size  int
}

func pieces(s *slab.Slab) []piece {
	var list []piece
	for a, n := range s.All() {
		list = append(list, piece{a, n})
	}
	return list
}

type content struct {
	number int64
	errno  api.Errno
}

// contents is all that Load tells of the slots of the pieces that there are.
func contents(s *slab.Slab) []content {
	var list []content
	for a, n := range s.All() {
		for k := range n {
			v, e := s.Load(a + slab.Addr(k))
			list = append(list, content{v, e})
		}
	}
	return list
}

func sameSlabs(a, b *slab.Slab) bool {
	return a.Live() == b.Live() && a.Used() == b.Used() && slices.Equal(pieces(a), pieces(b)) && slices.Equal(contents(a), contents(b))
}

// allErrors: each call that is handed an address tells this error, with zero values beside it.
func allErrors(t *testing.T, s *slab.Slab, a slab.Addr, want api.Errno) {
	t.Helper()
	before := s.Clone()
	wantErr(t, "Free", s.Free(a), want)
	wantLoad(t, s, a, 0, want)
	wantErr(t, "Store", s.Store(a, 99), want)
	wantErr(t, "Blank", s.Blank(a), want)
	for _, n := range []int{0, 1, -1, math.MinInt, math.MaxInt} {
		wantOff(t, s, a, n, 0, want)
	}
	wantSize(t, s, a, 0, want)
	if !sameSlabs(before, s) {
		t.Errorf("address %d: an error changed the slab", a)
	}
}

// P1.1, New.
func TestNewRoom(t *testing.T) {
	for _, n := range []int{-1, -16384, 16385, math.MinInt, math.MaxInt, 1 << 32, 1<<32 + 5} {
		if s, e := slab.New(n); s != nil || e != api.ErrRange {
			t.Errorf("New(%d) = %v, %v", n, s, e)
		}
	}
	for _, n := range []int{0, 1, 4095, 4096, 16383, 16384} {
		s := newSlab(t, n)
		wantCounts(t, s, 0, 0)
		if len(pieces(s)) != 0 {
			t.Errorf("New(%d) has pieces", n)
		}
	}
}

// P1.1, Get: which slots there may be, and that the range is asked ahead of the room.
func TestGetSlots(t *testing.T) {
	for _, room := range []int{0, 1, 16384} {
		s := newSlab(t, room)
		for _, n := range []int{0, -1, 4096, 4097, 16384, 16385, math.MinInt, math.MaxInt, 1<<32 + 1} {
			wantGet(t, s, n, 0, api.ErrRange)
		}
		wantCounts(t, s, 0, 0)
	}
	s := newSlab(t, 16384)
	wantGet(t, s, 1, addr(0, 0, 0), api.OK)
	wantGet(t, s, 4095, addr(0, 1, 0), api.OK)
	wantSize(t, s, addr(0, 1, 4094), 4095, api.OK)
	allErrors(t, s, addr(0, 1, 4095), api.ErrNone)
	wantCounts(t, s, 2, 4096)
}

// P1.1, Get: the room is that of all pieces that there are.
func TestGetFull(t *testing.T) {
	wantGet(t, newSlab(t, 0), 1, 0, api.ErrFull)
	s := newSlab(t, 10)
	a := get(t, s, 4)
	wantGet(t, s, 7, 0, api.ErrFull)
	wantGet(t, s, 4095, 0, api.ErrFull)
	wantCounts(t, s, 1, 4)
	wantGet(t, s, 6, addr(0, 1, 0), api.OK)
	wantGet(t, s, 1, 0, api.ErrFull)
	wantErr(t, "Free", s.Free(a), api.OK)
	wantGet(t, s, 5, 0, api.ErrFull)
	wantGet(t, s, 4, addr(1, 0, 0), api.OK)
	wantCounts(t, s, 2, 10)
}

// P1.1, Get: a slab that is full of the least pieces has the greatest indexes.
func TestGetManyPieces(t *testing.T) {
	s := newSlab(t, 16384)
	for k := range 16384 {
		wantGet(t, s, 1, addr(0, k, 0), api.OK)
	}
	wantGet(t, s, 1, 0, api.ErrFull)
	wantCounts(t, s, 16384, 16384)
	last := addr(0, 16383, 0)
	wantErr(t, "Store", s.Store(last, 5), api.OK)
	wantLoad(t, s, last, 5, api.OK)
	allErrors(t, s, addr(0, 16384, 0), api.ErrNone)
}

// P1.1, Get: the slots of a new piece are blank, also where one was freed with numbers in it.
func TestGetBlank(t *testing.T) {
	s := newSlab(t, 8)
	a := get(t, s, 3)
	for k := range 3 {
		wantLoad(t, s, a+slab.Addr(k), 0, api.ErrBlank)
		wantErr(t, "Store", s.Store(a+slab.Addr(k), 7), api.OK)
	}
	wantErr(t, "Free", s.Free(a), api.OK)
	b := get(t, s, 3)
	for k := range 3 {
		wantLoad(t, s, b+slab.Addr(k), 0, api.ErrBlank)
	}
}

// The chapter's words on indexes and ages: the last one freed is taken first, then the least that never was taken.
func TestIndexAndAge(t *testing.T) {
	s := newSlab(t, 100)
	for k := range 4 {
		wantGet(t, s, 2, addr(0, k, 0), api.OK)
	}
	for _, k := range []int{1, 3, 0} {
		wantErr(t, "Free", s.Free(addr(0, k, 0)), api.OK)
	}
	wantGet(t, s, 1, addr(1, 0, 0), api.OK)
	wantGet(t, s, 1, addr(1, 3, 0), api.OK)
	wantErr(t, "Free", s.Free(addr(0, 2, 0)), api.OK)
	wantErr(t, "Free", s.Free(addr(1, 0, 0)), api.OK)
	wantGet(t, s, 1, addr(2, 0, 0), api.OK)
	wantGet(t, s, 1, addr(1, 2, 0), api.OK)
	wantGet(t, s, 1, addr(1, 1, 0), api.OK)
	wantGet(t, s, 1, addr(0, 4, 0), api.OK)
	wantGet(t, s, 1, addr(0, 5, 0), api.OK)
}

// The chapter's example.
func TestExample(t *testing.T) {
	s := newSlab(t, 2)
	wantGet(t, s, 2, 1<<62, api.OK)
	wantErr(t, "Free", s.Free(1<<62), api.OK)
	wantGet(t, s, 1, 1<<62+1<<32, api.OK)
}

// P1.2: addresses that never were.
func TestAddressNone(t *testing.T) {
	s := newSlab(t, 20)
	for _, a := range []slab.Addr{0, 1 << 62, math.MaxUint64} {
		allErrors(t, s, a, api.ErrNone)
	}
	a, b := get(t, s, 3), get(t, s, 2)
	for _, x := range []slab.Addr{0, 1, 2, 4096, 1 << 32, 1<<62 - 1, a + 3, a + 4095, b + 2, addr(0, 2, 0), addr(1, 0, 0), addr(1, 1, 0), addr(0, 1<<20-1, 0), a + 1<<61, a + 1<<62, a - 1<<62, a + 1<<63, math.MaxUint64} {
		allErrors(t, s, x, api.ErrNone)
	}
	// Negative numbers of 64 bits, as later layers make them of addresses.
	allErrors(t, s, -a, api.ErrNone)
}

// P1.2: a freed piece's addresses are told apart from those that never were, by each age's own size.
func TestAddressFreed(t *testing.T) {
	s := newSlab(t, 20)
	sizes := []int{3, 1, 5, 2}
	for age, n := range sizes {
		wantGet(t, s, n, addr(age, 0, 0), api.OK)
		wantErr(t, "Free", s.Free(addr(age, 0, 0)), api.OK)
	}
	check := func() {
		t.Helper()
		for age, n := range sizes {
			for k := range 8 {
				if k < n {
					allErrors(t, s, addr(age, 0, k), api.ErrFreed)
				} else {
					allErrors(t, s, addr(age, 0, k), api.ErrNone)
				}
			}
		}
	}
	check()
	allErrors(t, s, addr(4, 0, 0), api.ErrNone)
	wantGet(t, s, 6, addr(4, 0, 0), api.OK)
	wantErr(t, "Store", s.Store(addr(4, 0, 5), 1), api.OK)
	check()
	allErrors(t, s, addr(4, 0, 6), api.ErrNone)
	allErrors(t, s, addr(5, 0, 0), api.ErrNone)
}

// P1.2, Free: only by the first slot's address, and once.
func TestFree(t *testing.T) {
	s := newSlab(t, 10)
	a, b := get(t, s, 3), get(t, s, 2)
	for k := 1; k < 3; k++ {
		wantErr(t, "Free behind", s.Free(a+slab.Addr(k)), api.ErrRange)
	}
	wantCounts(t, s, 2, 5)
	wantErr(t, "Free", s.Free(a), api.OK)
	wantCounts(t, s, 1, 2)
	wantErr(t, "Free again", s.Free(a), api.ErrFreed)
	wantErr(t, "Free behind, again", s.Free(a+1), api.ErrFreed)
	wantErr(t, "Free of none", s.Free(a+3), api.ErrNone)
	wantErr(t, "Free", s.Free(b), api.OK)
	wantCounts(t, s, 0, 0)
}

// P1.2: Load, Store and Blank, at each slot alone.
func TestLoadStoreBlank(t *testing.T) {
	s := newSlab(t, 10)
	a, b := get(t, s, 3), get(t, s, 3)
	for _, v := range []int64{0, 1, -1, math.MinInt64, math.MaxInt64} {
		wantErr(t, "Store", s.Store(a+1, v), api.OK)
		wantLoad(t, s, a+1, v, api.OK)
	}
	for _, x := range []slab.Addr{a, a + 2, b, b + 1, b + 2} {
		wantLoad(t, s, x, 0, api.ErrBlank)
	}
	wantErr(t, "Store", s.Store(b+1, 8), api.OK)
	wantErr(t, "Blank", s.Blank(a+1), api.OK)
	wantLoad(t, s, a+1, 0, api.ErrBlank)
	wantErr(t, "Blank again", s.Blank(a+1), api.OK)
	wantLoad(t, s, a+1, 0, api.ErrBlank)
	wantLoad(t, s, b+1, 8, api.OK)
	wantErr(t, "Store", s.Store(a+1, 0), api.OK)
	wantLoad(t, s, a+1, 0, api.OK)
	wantCounts(t, s, 2, 6)
}

// P1.2, Off: behind and ahead, within the piece and beyond it; blank slots have addresses too.
func TestOff(t *testing.T) {
	s := newSlab(t, 10000)
	get(t, s, 4)
	wantErr(t, "Free", s.Free(addr(0, 0, 0)), api.OK)
	get(t, s, 2)
	for _, n := range []int{1, 5, 4095} {
		a := get(t, s, n)
		for k := range n {
			wantOff(t, s, a, k, a+slab.Addr(k), api.OK)
			wantOff(t, s, a+slab.Addr(k), -k, a, api.OK)
			wantOff(t, s, a+slab.Addr(k), n-1-k, a+slab.Addr(n-1), api.OK)
			wantOff(t, s, a+slab.Addr(k), n-k, 0, api.ErrRange)
			wantOff(t, s, a+slab.Addr(k), -k-1, 0, api.ErrRange)
		}
		for _, far := range []int{4096, -4096, 1 << 32, -1 << 32, math.MaxInt, math.MinInt, math.MinInt + 1} {
			wantOff(t, s, a, far, 0, api.ErrRange)
			wantOff(t, s, a+slab.Addr(n-1), far, 0, api.ErrRange)
		}
	}
	wantOff(t, s, addr(1, 0, 0), 1, addr(1, 0, 1), api.OK)
	wantOff(t, s, addr(1, 0, 0), 2, 0, api.ErrRange)
	wantOff(t, s, addr(0, 0, 1), 9, 0, api.ErrFreed)
	wantOff(t, s, addr(1, 0, 2), 0, 0, api.ErrNone)
}

// P1.2, Size: the same at each slot of a piece.
func TestSize(t *testing.T) {
	s := newSlab(t, 10000)
	for _, n := range []int{1, 2, 7, 4095} {
		a := get(t, s, n)
		for _, k := range []int{0, n / 2, n - 1} {
			wantSize(t, s, a+slab.Addr(k), n, api.OK)
		}
		wantSize(t, s, a+slab.Addr(n), 0, api.ErrNone)
	}
}

// P1.3: with an error nothing changes, neither now nor in what is got later.
func TestErrorsChangeNothing(t *testing.T) {
	s := newSlab(t, 12)
	a, b, c := get(t, s, 3), get(t, s, 2), get(t, s, 4)
	s.Store(a+1, 11)
	s.Store(c+3, 12)
	s.Free(b)
	x := s.Clone()
	for range 3 {
		s.Get(0)
		s.Get(4096)
		s.Get(6)
		s.Free(b)
		s.Free(b + 1)
		s.Free(a + 1)
		s.Free(c + 4)
		s.Store(b, 1)
		s.Store(a+3, 1)
		s.Blank(b + 1)
		s.Blank(c + 4)
		s.Load(a)
		s.Off(a, 3)
		s.Size(0)
	}
	if !sameSlabs(s, x) {
		t.Error("errors changed the slab")
	}
	wantGet(t, s, 1, addr(1, 1, 0), api.OK)
	wantGet(t, s, 1, addr(0, 3, 0), api.OK)
}

// P1.3, All: rising indexes, whatever the order they were got in.
func TestAllOrder(t *testing.T) {
	s := newSlab(t, 50)
	for k := range 5 {
		get(t, s, k+1)
	}
	for _, k := range []int{0, 3, 1} {
		s.Free(addr(0, k, 0))
	}
	get(t, s, 9)
	get(t, s, 8)
	want := []piece{{addr(1, 1, 0), 9}, {addr(0, 2, 0), 3}, {addr(1, 3, 0), 8}, {addr(0, 4, 0), 5}}
	if got := pieces(s); !slices.Equal(got, want) {
		t.Errorf("All: %v, want %v", got, want)
	}
}

// P1.3, All: what there was when it began, whatever changes meanwhile; it begins anew each time, and may be left.
func TestAllBegins(t *testing.T) {
	s := newSlab(t, 50)
	all := s.All()
	for range all {
		t.Error("a piece of none")
	}
	a, b, c := get(t, s, 1), get(t, s, 2), get(t, s, 3)
	var got []piece
	for x, n := range all {
		got = append(got, piece{x, n})
		s.Free(a)
		s.Free(b)
		s.Free(c)
		get(t, s, 4)
	}
	if want := []piece{{a, 1}, {b, 2}, {c, 3}}; !slices.Equal(got, want) {
		t.Errorf("All while it changes: %v, want %v", got, want)
	}
	count := 0
	for x := range all {
		count++
		if x != addr(0, 3, 0) && x != addr(1, 0, 0) && x != addr(1, 1, 0) && x != addr(1, 2, 0) {
			t.Error("All anew:", x)
		}
	}
	if count != s.Live() || count != 3 {
		t.Error("All anew:", count, s.Live())
	}
	for range all {
		count++
		break
	}
	for range all {
		for range all {
			count++
		}
		break
	}
	if count != 7 {
		t.Error("All left early, and within itself:", count)
	}
}

// P1.3, Clone: the same in all that it tells from then on, and neither sees the other's changes.
func TestClone(t *testing.T) {
	s := newSlab(t, 20)
	a, b, c := get(t, s, 3), get(t, s, 2), get(t, s, 4)
	s.Store(a, 1)
	s.Store(c+3, 2)
	s.Free(b)
	get(t, s, 1)
	s.Free(addr(1, 1, 0))
	x := s.Clone()
	if x == s || !sameSlabs(s, x) {
		t.Error("a clone isn't the same")
	}
	allErrors(t, x, b+1, api.ErrFreed)
	allErrors(t, x, b+2, api.ErrNone)
	allErrors(t, x, addr(1, 1, 0), api.ErrFreed)
	s.Store(a, 10)
	s.Blank(c + 3)
	wantLoad(t, x, a, 1, api.OK)
	wantLoad(t, x, c+3, 2, api.OK)
	x.Store(a+1, 30)
	wantLoad(t, s, a+1, 0, api.ErrBlank)
	s.Free(a)
	s.Free(c)
	wantCounts(t, s, 0, 0)
	wantCounts(t, x, 2, 7)
	// The free indexes part too: one slab's order of freeing is not the other's.
	wantGet(t, x, 5, addr(2, 1, 0), api.OK)
	wantGet(t, x, 5, addr(0, 3, 0), api.OK)
	wantGet(t, x, 4, 0, api.ErrFull)
	wantGet(t, s, 2, addr(1, 2, 0), api.OK)
	wantGet(t, s, 2, addr(1, 0, 0), api.OK)
	wantGet(t, s, 2, addr(2, 1, 0), api.OK)
	wantSize(t, x, addr(2, 1, 0), 5, api.OK)
	wantSize(t, s, addr(2, 1, 0), 2, api.OK)
	wantCounts(t, newSlab(t, 3).Clone(), 0, 0)
}

// P1.3, Clone: what both append afterwards doesn't come to lie on one spot.
func TestCloneGrowsApart(t *testing.T) {
	for n := range 20 {
		s := newSlab(t, 100)
		for k := range n {
			get(t, s, 1)
			if k%2 == 0 {
				s.Free(addr(0, k, 0))
			}
		}
		x := s.Clone()
		for k := range 5 {
			a, b := get(t, s, 2), get(t, x, 3)
			if a != b {
				t.Fatal("a clone takes another index", n, k, a, b)
			}
			wantSize(t, s, a, 2, api.OK)
			wantSize(t, x, a, 3, api.OK)
			allErrors(t, s, a+2, api.ErrNone)
		}
	}
}

// P1.3, Clone: an index that one of them takes, and another that it frees, don't change which the other takes.
func TestCloneFreesApart(t *testing.T) {
	s := newSlab(t, 10)
	a, b, c := get(t, s, 1), get(t, s, 1), get(t, s, 1)
	s.Free(a)
	s.Free(b)
	x := s.Clone()
	wantGet(t, s, 1, addr(1, 1, 0), api.OK)
	wantErr(t, "Free", s.Free(c), api.OK)
	wantGet(t, x, 1, addr(1, 1, 0), api.OK)
	wantErr(t, "Free", x.Free(addr(1, 1, 0)), api.OK)
	wantGet(t, s, 1, addr(1, 2, 0), api.OK)
}

// P1.4: no address is given twice, and none of a freed piece is good again.
func TestNeverAgain(t *testing.T) {
	s := newSlab(t, 12)
	seen := map[slab.Addr]int{}
	var live []piece
	rnd := uint32(1)
	for step := range 3000 {
		rnd = rnd*1664525 + 1013904223
		n := int(rnd>>20)%5 + 1
		a, e := s.Get(n)
		if e == api.OK {
			for k := range n {
				if old, ok := seen[a+slab.Addr(k)]; ok {
					t.Fatal("an address again", a, k, step, old)
				}
				seen[a+slab.Addr(k)] = step
			}
			live = append(live, piece{a, n})
			continue
		}
		k := int(rnd>>8) % len(live)
		wantErr(t, "Free", s.Free(live[k].first), api.OK)
		live = slices.Delete(live, k, k+1)
	}
	good := 0
	for a := range seen {
		_, e := s.Size(a)
		if e == api.OK {
			good++
		} else if e != api.ErrFreed {
			t.Error(a, e)
		}
	}
	if good != s.Used() || len(seen) < 3000 {
		t.Error(good, s.Used(), len(seen))
	}
}

// P1: all calls end, and none panics, at numbers of all kinds.
func TestAnyArguments(t *testing.T) {
	numbers := []int{0, 1, -1, 2, 4094, 4095, 4096, 16384, 16385, 1 << 31, 1 << 32, 1 << 62, -1 << 62, math.MaxInt, math.MinInt}
	for _, room := range []int{0, 1, 3, 16384} {
		s := newSlab(t, room)
		for _, n := range numbers {
			s.Get(n)
			s.Free(slab.Addr(1<<62 + n&0xffffff))
		}
		for bit := range 64 {
			for _, low := range numbers {
				for _, a := range []slab.Addr{slab.Addr(low) + 1<<bit, slab.Addr(low) - 1<<bit, slab.Addr(low) ^ 1<<bit ^ 1<<62} {
					s.Load(a)
					s.Store(a, int64(low))
					s.Blank(a)
					s.Size(a)
					for _, n := range numbers {
						s.Off(a, n)
					}
					s.Free(a)
				}
			}
		}
		if s.Used() > room || s.Live() > s.Used() || s.Used() < 0 {
			t.Error(room, s.Live(), s.Used())
		}
	}
}
