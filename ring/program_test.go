package ring

import (
	"testing"

	"matryoshka/api"
	"matryoshka/mem"
)

// What is alike of pushers and poppers: P6.4, and of P6.2 and P6.3 how turns are held against positions.

// side is one of both kinds, so that a test can go over both.
type side struct {
	name   string
	begin  func(q Ring) stepper
	count  int    // the word by which positions are given out, counted from At
	opens  uint64 // how much more than its position the slot's turn is, if it may be claimed
	moves  func(at int) api.Act
	leaves func(q Ring) uint64 // how much more than its position the slot's turn is behind it
	told   result
}

const theValue = 77

func sides() []side {
	return []side{
		{
			"pusher", func(q Ring) stepper { return q.Push(theValue) }, 0, 0,
			func(at int) api.Act { return store(at, theValue) },
			func(q Ring) uint64 { return 1 },
			result{0, true, true},
		},
		{
			"popper", func(q Ring) stepper { return q.Pop() }, 1, 1,
			load,
			func(q Ring) uint64 { return uint64(q.Size) },
			result{theValue, true, true},
		},
	}
}

// turnAt and valueAt are the words of a position's slot, as the chapter says it.
func turnAt(q Ring, p uint64) int  { return q.At + 2 + 2*int(p%uint64(q.Size)) }
func valueAt(q Ring, p uint64) int { return q.At + 3 + 2*int(p%uint64(q.Size)) }

// acts is the acts of one of a side that nobody gets in the way of, at a position.
func (s side) acts(q Ring, p uint64) []api.Act {
	return []api.Act{
		load(q.At + s.count),
		load(turnAt(q, p)),
		cas(q.At+s.count, p),
		s.moves(valueAt(q, p)),
		store(turnAt(q, p), p+s.leaves(q)),
	}
}

// open is a memory in which one of a side may claim a position; the value is there for who pops it.
func (s side) open(t *testing.T, q Ring, p uint64) *mem.Mem {
	t.Helper()
	m := with(t, rising(900, q.At+2+2*q.Size+3)...)
	m.Store(q.At+s.count, p)
	m.Store(turnAt(q, p), p+s.opens)
	m.Store(valueAt(q, p), theValue)
	return m
}

// at is one of a side that has done its first turns with this memory, in which it may claim a position.
func (s side) at(t *testing.T, q Ring, m *mem.Mem, p uint64, turn int) stepper {
	t.Helper()
	one := s.begin(q)
	goOn(t, one, m, s.acts(q, p)[:turn]...)
	return one
}

func TestTurnsAgainstPositions(t *testing.T) {
	const less, more = -1, 1
	const half = 1 << 63
	for _, c := range []struct {
		opens, turn uint64 // the turn at which it may claim, and the one that the slot has
		want        int
	}{
		{0, 0, 0}, {1, 1, 0}, {7, 7, 0}, {half, half, 0}, {most, most, 0},
		{1, 0, less}, {2, 0, less}, {7, 6, less}, {7, 5, less}, {100, 0, less}, {1 << 32, 0, less}, {1 << 32, 1<<32 - 1, less}, {half - 1, 0, less}, {most, most - 1, less}, {most, half, less},
		{0, 1, more}, {0, 2, more}, {7, 8, more}, {7, 9, more}, {0, 100, more}, {0, 1 << 32, more}, {5, 5 + 1<<32, more}, {0, half - 1, more}, {most - 1, most, more}, {half, most, more},
		// Over 2^64 - 1 and 0.
		{0, most, less}, {0, most - 1, less}, {1, most, less}, {5, most - 5, less}, {0, half + 1, less},
		{most, 0, more}, {most - 1, 0, more}, {most, 1, more}, {most - 5, 5, more}, {half + 1, 0, more},
		// As far apart as can be: both ways round the difference is the least number with a sign.
		{0, half, less}, {half, 0, less}, {5, half + 5, less}, {most, half - 1, less}, {half - 1, most, less},
	} {
		for _, s := range sides() {
			q := Ring{At: 1, Size: 3}
			p := c.opens - s.opens
			m := s.open(t, q, p)
			m.Store(turnAt(q, p), c.turn)
			words := m.Words(0, m.Len())
			one := s.at(t, q, m, p, 1)
			acts := s.acts(q, p)
			switch c.want {
			case 0:
				step(t, one, m, acts[1], result{})
				wantNext(t, one, acts[2])
			case less:
				step(t, one, m, acts[1], result{done: true})
				wantStill(t, one, m)
			case more:
				step(t, one, m, acts[1], result{})
				wantNext(t, one, acts[0])
			}
			wantWords(t, m, words...)
		}
	}
}

// TestAlone: each step of one that nobody gets in the way of: what it does, and the words behind it.
func TestAlone(t *testing.T) {
	for _, s := range sides() {
		for _, q := range []Ring{{0, 2}, {1, 2}, {0, 3}, {4, 5}, {2, 63}, {3, 64}} {
			for _, p := range []uint64{0, 1, 2, 3, 4, 5, 62, 63, 64, 65, 127, 128, 1<<32 - 1, 1 << 32, 1<<63 - 1, 1 << 63, most - 2, most - 1, most} {
				m := s.open(t, q, p)
				words := m.Words(0, m.Len())
				one := s.begin(q)
				wantResult(t, one, result{})
				for turn, a := range s.acts(q, p) {
					r := result{}
					if turn == 4 {
						r = s.told
					}
					step(t, one, m, a, r)
					switch a.Kind {
					case api.ActCas:
						words[a.At] = a.B
					case api.ActStore:
						words[a.At] = a.A
					}
					wantWords(t, m, words...)
				}
				wantStill(t, one, m)
			}
		}
	}
}

func TestAtTheGreatestPlace(t *testing.T) {
	q := Ring{At: 65000, Size: 64}
	m, _ := mem.New(65536)
	if e := q.Init(m); e != api.OK {
		t.Fatal(e)
	}
	for v := range uint64(64) {
		wantPush(t, q, m, v, true)
	}
	wantPush(t, q, m, 64, false)
	if l := m.Words(65126, 5); l[0] != 63 || l[1] != 62 || l[2] != 64 || l[3] != 63 || l[4] != 0 {
		t.Error(l)
	}
	for v := range uint64(64) {
		wantPop(t, q, m, v)
	}
	wantNothing(t, q, m)
}

// TestCasSaysNo: one whose position is taken begins anew, lays nothing by that, and takes the position that is there then.
func TestCasSaysNo(t *testing.T) {
	for _, s := range sides() {
		q := Ring{At: 1, Size: 3}
		for _, now := range []uint64{6, 4, 0, 5 + 1<<32, most} {
			m := s.open(t, q, 5)
			one := s.at(t, q, m, 5, 2)
			m.Store(q.At+s.count, now)
			words := m.Words(0, m.Len())
			goOn(t, one, m, cas(q.At+s.count, 5))
			wantWords(t, m, words...)

			m.Store(turnAt(q, now), now+s.opens)
			m.Store(valueAt(q, now), theValue)
			acts := s.acts(q, now)
			goOn(t, one, m, acts[:4]...)
			step(t, one, m, acts[4], s.told)
			wantStill(t, one, m)
		}
	}
}

// TestBeginsAnewAgainAndAgain: as often as its position is taken, it begins anew; and so it does as often as the slot is ahead.
func TestBeginsAnewAgainAndAgain(t *testing.T) {
	for _, s := range sides() {
		q := Ring{At: 0, Size: 2}
		m := s.open(t, q, 0)
		one := s.begin(q)
		for p := range uint64(20) {
			m.Store(q.At+s.count, p)
			m.Store(turnAt(q, p), p+s.opens)
			goOn(t, one, m, s.acts(q, p)[:2]...)
			m.Store(q.At+s.count, p+1)
			goOn(t, one, m, s.acts(q, p)[2])

			m.Store(turnAt(q, p+1), p+1+s.opens+2)
			goOn(t, one, m, s.acts(q, p+1)[:2]...)
		}
		wantNext(t, one, load(q.At+s.count))
	}
}

// TestTurnIsAskedOnce: a slot whose turn changes behind the load of it is claimed all the same; the cas alone tells.
func TestTurnIsAskedOnce(t *testing.T) {
	for _, s := range sides() {
		q := Ring{At: 0, Size: 2}
		m := s.open(t, q, 3)
		one := s.at(t, q, m, 3, 2)
		m.Store(turnAt(q, 3), 99)
		acts := s.acts(q, 3)
		goOn(t, one, m, acts[2:4]...)
		m.Store(q.At+s.count, 99)
		step(t, one, m, acts[4], s.told)
		if l := m.Words(turnAt(q, 3), 1); l[0] != 3+s.leaves(q) {
			t.Error(s.name, l)
		}
	}
}

// P6.4: acts with an error.

func TestErrorAtEachTurn(t *testing.T) {
	for _, s := range sides() {
		for turn := range 5 {
			for name, none := range map[string]*mem.Mem{"nil": nil, "zero": {}, "short": with(t, 6)} {
				q := Ring{At: 1, Size: 2}
				m := s.open(t, q, 3)
				one := s.at(t, q, m, 3, turn)
				words := m.Words(0, m.Len())
				if !one.Step(none) {
					t.Fatalf("%s, turn %d, %s: Step = no", s.name, turn, name)
				}
				wantResult(t, one, result{done: true})
				wantStill(t, one, m)
				wantWords(t, m, words...)
				if none.Len() > 0 {
					wantWords(t, none, 6)
				}
			}
		}
	}
}

// TestRingThatIsNotAllThere: with each number of words the first act on one that is missing ends it; what was laid ahead of it stays.
func TestRingThatIsNotAllThere(t *testing.T) {
	q := Ring{At: 2, Size: 3}
	for _, s := range sides() {
		for _, p := range []uint64{0, 1, 2, 3, 7} {
			for there := 1; there < q.At+2+2*q.Size; there++ {
				acts := s.acts(q, p)
				ends := 0
				for ends < len(acts) && acts[ends].At < there {
					ends++
				}
				m := with(t, s.open(t, q, p).Words(0, there)...)
				one := s.at(t, q, m, p, min(ends, 4))
				if ends == len(acts) {
					step(t, one, m, acts[4], s.told)
					continue
				}
				words := m.Words(0, there)
				wantNext(t, one, acts[ends])
				if !one.Step(m) {
					t.Fatalf("%s, %d words, position %d: Step = no", s.name, there, p)
				}
				wantResult(t, one, result{done: true})
				wantStill(t, one, m)
				wantWords(t, m, words...)
			}
		}
	}
}

// TestObjectsAreApart: what one does is not to be seen in another, but through the memory; the ring is the one that it was.
func TestObjectsAreApart(t *testing.T) {
	for _, s := range sides() {
		q := Ring{At: 0, Size: 2}
		m, n := s.open(t, q, 3), s.open(t, q, 8)
		one, other := s.begin(q), s.begin(q)
		goOn(t, one, m, s.acts(q, 3)[:3]...)
		wantNext(t, other, s.acts(q, 8)[0])
		goOn(t, other, n, s.acts(q, 8)[:2]...)
		was := q
		q.At, q.Size = 1, 3
		goOn(t, one, m, s.acts(was, 3)[3])
		step(t, one, m, s.acts(was, 3)[4], s.told)
		goOn(t, other, n, s.acts(was, 8)[2:4]...)
		step(t, other, n, s.acts(was, 8)[4], s.told)
	}
}
