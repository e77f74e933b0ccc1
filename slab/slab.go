// Package slab is layer 1: see shared/doc/01-slab.md.
package slab

import (
	"slices"

	"drogue/api"
)

// How an address is made up of a piece's age, its index, and a slot's place.
const (
	base    = 1 << 62
	byAge   = 1 << 32
	byIndex = 1 << 12
)

// The bounds of a slab's room, and of a piece's slots.
const (
	maxRoom  = 1 << 14
	maxSlots = byIndex - 1
)

// Addr is the address of a slot.
type Addr uint64

// Slab is memory that checks each address.
type Slab struct {
	room, live, used int
	entries          []entry
	free             []int // the indexes that may be taken again, the one that was freed last at the end
}

// entry is what is known of an index.
type entry struct {
	sizes []uint16 // of all its pieces, by age: freed ones stay, to tell ErrFreed from ErrNone
	slots []slot   // of the piece that there is; none if it was freed
}

// slot holds a number, or is blank: its zero value.
type slot struct {
	number int64
	full   bool
}

// piece is what an iterator tells of a piece.
type piece struct {
	first Addr
	size  int
}

// New: a slab without pieces.
func New(slots int) (*Slab, api.Errno) {
	if slots < 0 || slots > maxRoom {
		return nil, api.ErrRange
	}
	return &Slab{room: slots}, api.OK
}

// Get: a new piece.
func (s *Slab) Get(slots int) (Addr, api.Errno) {
	if slots < 1 || slots > maxSlots {
		return 0, api.ErrRange
	}
	if s.used+slots > s.room {
		return 0, api.ErrFull
	}
	index := s.takeIndex()
	e := &s.entries[index]
	e.sizes = append(e.sizes, uint16(slots))
	e.slots = make([]slot, slots)
	s.live++
	s.used += slots
	return e.first(index), api.OK
}

// Free: a piece is gone.
func (s *Slab) Free(a Addr) api.Errno {
	e, place, errno := s.find(a)
	if errno != api.OK {
		return errno
	}
	if place != 0 {
		return api.ErrRange
	}
	s.live--
	s.used -= len(e.slots)
	e.slots = nil
	s.free = append(s.free, indexOf(a))
	return api.OK
}

// Load: a slot's number.
func (s *Slab) Load(a Addr) (int64, api.Errno) {
	e, place, errno := s.find(a)
	if errno != api.OK {
		return 0, errno
	}
	if !e.slots[place].full {
		return 0, api.ErrBlank
	}
	return e.slots[place].number, api.OK
}

// Store: a slot holds a number.
func (s *Slab) Store(a Addr, v int64) api.Errno {
	return s.put(a, slot{number: v, full: true})
}

// Blank: a slot is blank.
func (s *Slab) Blank(a Addr) api.Errno {
	return s.put(a, slot{})
}

// Off: an address so many slots behind.
func (s *Slab) Off(a Addr, slots int) (Addr, api.Errno) {
	e, place, errno := s.find(a)
	if errno != api.OK {
		return 0, errno
	}
	// The bounds are held against slots alone: place+slots could go round.
	if slots < -place || slots >= len(e.slots)-place {
		return 0, api.ErrRange
	}
	return e.first(indexOf(a)) + Addr(place+slots), api.OK
}

// Size: how many slots a piece has.
func (s *Slab) Size(a Addr) (int, api.Errno) {
	e, _, errno := s.find(a)
	if errno != api.OK {
		return 0, errno
	}
	return len(e.slots), api.OK
}

// Live: how many pieces there are.
func (s *Slab) Live() int { return s.live }

// Used: how many slots they have.
func (s *Slab) Used() int { return s.used }

// All: the pieces that there are.
func (s *Slab) All() func(yield func(Addr, int) bool) {
	return func(yield func(Addr, int) bool) {
		for _, p := range s.pieces() {
			if !yield(p.first, p.size) {
				return
			}
		}
	}
}

// Clone: a slab that is the same.
func (s *Slab) Clone() *Slab {
	c := *s
	c.free = slices.Clone(s.free)
	c.entries = slices.Clone(s.entries)
	for i := range c.entries {
		e := &c.entries[i]
		e.sizes = slices.Clone(e.sizes)
		e.slots = slices.Clone(e.slots)
	}
	return &c
}

// takeIndex: the index of a new piece, which is free no more.
func (s *Slab) takeIndex() int {
	last := len(s.free) - 1
	if last < 0 {
		s.entries = append(s.entries, entry{})
		return len(s.entries) - 1
	}
	index := s.free[last]
	s.free = s.free[:last]
	return index
}

// find: what an address that is good points to: an index's entry, and a slot's place there.
func (s *Slab) find(a Addr) (*entry, int, api.Errno) {
	index := indexOf(a)
	if a < base || index >= len(s.entries) {
		return nil, 0, api.ErrNone
	}
	e := &s.entries[index]
	age, place := int((a-base)/byAge), int(a%byIndex)
	if age >= len(e.sizes) || place >= int(e.sizes[age]) {
		return nil, 0, api.ErrNone
	}
	if age < e.age() || !e.taken() {
		return nil, 0, api.ErrFreed
	}
	return e, place, api.OK
}

// put: a slot is that one from now on.
func (s *Slab) put(a Addr, v slot) api.Errno {
	e, place, errno := s.find(a)
	if errno != api.OK {
		return errno
	}
	e.slots[place] = v
	return api.OK
}

// pieces: those that there are, in memory of their own, so that what changes later isn't seen in it.
func (s *Slab) pieces() []piece {
	list := make([]piece, len(s.entries))
	there := 0
	for index := range s.entries {
		if e := &s.entries[index]; e.taken() {
			list[there] = piece{e.first(index), len(e.slots)}
			there++
		}
	}
	return list[:there:there]
}

// taken: is there a piece?
func (e *entry) taken() bool { return len(e.slots) > 0 }

// age: that of the newest piece.
func (e *entry) age() int { return len(e.sizes) - 1 }

// first: the address of the newest piece's first slot, at that index.
func (e *entry) first(index int) Addr {
	return base + Addr(e.age())*byAge + Addr(index)*byIndex
}

// indexOf: the index in an address.
func indexOf(a Addr) int { return int(a % byAge / byIndex) }
