package slab_test

import (
	"testing"

	"drogue/api"
	"drogue/slab"
)

// model is the chapter's words, done as plainly as may be: every piece that there ever was, in a list.
type model struct {
	room  int
	was   []modelPiece
	freed []int
}

type modelPiece struct {
	index, age, size int
	gone             bool
	numbers          map[int]int64
}

func (m *model) used() int {
	n := 0
	for _, p := range m.was {
		if !p.gone {
			n += p.size
		}
	}
	return n
}

func (m *model) pieces(index int) int {
	n := 0
	for _, p := range m.was {
		if p.index == index {
			n++
		}
	}
	return n
}

func (m *model) get(slots int) (slab.Addr, api.Errno) {
	if slots < 1 || slots > 4095 {
		return 0, api.ErrRange
	}
	if m.used()+slots > m.room {
		return 0, api.ErrFull
	}
	index := 0
	if n := len(m.freed); n > 0 {
		index = m.freed[n-1]
		m.freed = m.freed[:n-1]
	} else {
		for m.pieces(index) > 0 {
			index++
		}
	}
	p := modelPiece{index: index, age: m.pieces(index), size: slots, numbers: map[int]int64{}}
	m.was = append(m.was, p)
	return addr(p.age, p.index, 0), api.OK
}

func (m *model) find(a slab.Addr) (*modelPiece, int, api.Errno) {
	for i := range m.was {
		p := &m.was[i]
		for k := range p.size {
			if addr(p.age, p.index, k) != a {
				continue
			}
			if p.gone {
				return nil, 0, api.ErrFreed
			}
			return p, k, api.OK
		}
	}
	return nil, 0, api.ErrNone
}

func (m *model) free(a slab.Addr) api.Errno {
	p, k, e := m.find(a)
	if e != api.OK {
		return e
	}
	if k != 0 {
		return api.ErrRange
	}
	p.gone = true
	m.freed = append(m.freed, p.index)
	return api.OK
}

func (m *model) load(a slab.Addr) (int64, api.Errno) {
	p, k, e := m.find(a)
	if e != api.OK {
		return 0, e
	}
	v, ok := p.numbers[k]
	if !ok {
		return 0, api.ErrBlank
	}
	return v, api.OK
}

func (m *model) off(a slab.Addr, slots int) (slab.Addr, api.Errno) {
	p, k, e := m.find(a)
	if e != api.OK {
		return 0, e
	}
	if k+slots < 0 || k+slots >= p.size {
		return 0, api.ErrRange
	}
	return addr(p.age, p.index, k+slots), api.OK
}

// TestModel: a slab and the model, handed the same, answer the same (P1.1 to P1.3).
func TestModel(t *testing.T) {
	for seed := range uint32(30) {
		rnd := seed*2654435761 + 12345
		next := func(n int) int {
			rnd = rnd*1664525 + 1013904223
			return int(rnd>>16) % n
		}
		room := next(14)
		s := newSlab(t, room)
		m := &model{room: room}
		for range 400 {
			a := addr(next(6), next(5), next(5))
			modelStep(t, s, m, a, next(6), next(9)-4)
			if t.Failed() {
				return
			}
		}
	}
}

func modelStep(t *testing.T, s *slab.Slab, m *model, a slab.Addr, what, n int) {
	t.Helper()
	switch what {
	case 0, 1:
		want, errno := m.get(n)
		wantGet(t, s, n, want, errno)
	case 2:
		wantErr(t, "Free", s.Free(a), m.free(a))
	case 3:
		p, k, errno := m.find(a)
		wantErr(t, "Store", s.Store(a, int64(n)), errno)
		if errno == api.OK {
			p.numbers[k] = int64(n)
		}
	case 4:
		p, k, errno := m.find(a)
		wantErr(t, "Blank", s.Blank(a), errno)
		if errno == api.OK {
			delete(p.numbers, k)
		}
	case 5:
		want, errno := m.off(a, n)
		wantOff(t, s, a, n, want, errno)
	}
	v, errno := m.load(a)
	wantLoad(t, s, a, v, errno)
	if s.Used() != m.used() {
		t.Errorf("Used %d, want %d", s.Used(), m.used())
	}
}
