package ticket

import (
	"testing"

	"matryoshka/api"
)

// P5.4: laws.

// scene is a memory of one lock, at its word 0, with those who want to hold it; as values, so that scenes can be compared and kept.
type scene struct {
	words   [2]uint64
	holders [4]Holder
	asked   uint64 // how many have a ticket
	held    uint64 // how many hold, or have held
}

func crowdAt(first uint64, many int) scene {
	s := scene{words: [2]uint64{first, first}}
	for i := range many {
		s.holders[i] = *Lock{}.Holder()
	}
	return s
}

// behind is the scene behind a move of one of them (its step, or its leave), and whether that move is one.
func (s scene) behind(t *testing.T, first uint64, who int, leaves bool) (scene, bool) {
	t.Helper()
	h := &s.holders[who]
	if leaves {
		return s, h.Leave()
	}
	if h.Next() == (api.Act{}) {
		return s, false
	}
	was, _ := h.State()
	m := with(t, s.words[:]...)
	state := h.Step(m)
	copy(s.words[:], m.Words(0, 2))
	_, ticket := h.State()
	switch {
	case was == Asks:
		if ticket != first+s.asked {
			t.Fatalf("ticket %d, and %d have one", ticket, s.asked)
		}
		s.asked++
	case was == Waits && state == Holds:
		if ticket != first+s.held {
			t.Fatalf("ticket %d holds, and %d have held", ticket, s.held)
		}
		s.held++
	}
	return s, true
}

func (s *scene) count(state int) int {
	n := 0
	for i := range s.holders {
		if now, _ := s.holders[i].State(); now == state && !s.holders[i].isNone() {
			n++
		}
	}
	return n
}

// wantEnd: if each one goes on in its turn, and leaves when it holds, all are gone at last.
func (s scene) wantEnd(t *testing.T, first uint64, many int) {
	t.Helper()
	for range 8 * many {
		for who := range many {
			s, _ = s.behind(t, first, who, true)
			s, _ = s.behind(t, first, who, false)
		}
	}
	end := first + uint64(many)
	if s.count(Gone) != many || s.words != [2]uint64{end, end} || s.held != uint64(many) {
		t.Fatalf("%d of %d are gone, the words are %v", s.count(Gone), many, s.words)
	}
}

// TestLawsInAllOrders goes through every scene that some order of steps and leaves leads to.
func TestLawsInAllOrders(t *testing.T) {
	for _, c := range []struct {
		first uint64
		many  int
	}{{0, 1}, {0, 2}, {0, 3}, {0, 4}, {7, 2}, {most - 1, 3}, {most, 2}, {1<<32 - 1, 3}} {
		goThrough(t, c.first, c.many)
	}
}

func goThrough(t *testing.T, first uint64, many int) {
	t.Helper()
	begin := crowdAt(first, many)
	seen := map[scene]bool{begin: true}
	work := []scene{begin}
	for len(work) > 0 {
		s := work[len(work)-1]
		work = work[:len(work)-1]
		if n := s.count(Holds); n > 1 {
			t.Fatalf("%d hold at once", n)
		}
		s.wantEnd(t, first, many)
		for who := range many {
			for _, leaves := range []bool{false, true} {
				next, is := s.behind(t, first, who, leaves)
				if is && !seen[next] {
					seen[next] = true
					work = append(work, next)
				}
			}
		}
	}
	orders := 0
	for s := range seen {
		if s.count(Gone) == many {
			orders++
		}
	}
	if want := []int{1, 1, 2, 6, 24}[many]; orders != want {
		t.Errorf("%d of one lock: %d orders, want %d", many, orders, want)
	}
}

func numbers(seed uint64) func(n int) int {
	return func(n int) int {
		seed = seed*6364136223846793005 + 1442695040888963407
		return int(seed >> 33 % uint64(n))
	}
}

// TestLawsInManyOrders: more holders, of two locks side by side, in orders by lot; also such as leave one behind for long.
func TestLawsInManyOrders(t *testing.T) {
	for seed := range 300 {
		crowd(t, numbers(uint64(seed)))
	}
}

// crowd lets eight holders of each of two locks go on, till all are gone. Locks side by side have nothing to do with one another.
func crowd(t *testing.T, next func(int) int) {
	t.Helper()
	const many = 8
	locks := [2]Lock{{At: 1}, {At: 3}}
	firsts := [2]uint64{most - 2, 40}
	m := with(t, 77, firsts[0], firsts[0], firsts[1], firsts[1], 78)
	var holders [2][many]*Holder
	for l := range holders {
		for i := range holders[l] {
			holders[l][i] = locks[l].Holder()
		}
	}
	held, gone := [2]uint64{}, 0
	for turns := 0; gone < 2*many; turns++ {
		if turns == 100000 {
			t.Fatalf("%d are gone, and no more", gone)
		}
		l, i := next(2), next(many)
		h := holders[l][i]
		for range 1 + next(5) {
			if next(3) == 0 {
				h.Leave()
			}
			was, _ := h.State()
			state := h.Step(m)
			_, ticket := h.State()
			if was == Waits && state == Holds {
				if ticket != firsts[l]+held[l] {
					t.Fatalf("ticket %d holds, and %d have held", ticket, held[l])
				}
				held[l]++
			}
			if was != Gone && state == Gone {
				gone++
			}
			wantOneAtMost(t, holders[l][:])
		}
	}
	wantWords(t, m, 77, firsts[0]+many, firsts[0]+many, firsts[1]+many, firsts[1]+many, 78)
}

func wantOneAtMost(t *testing.T, l []*Holder) {
	t.Helper()
	n := 0
	for _, h := range l {
		if s, _ := h.State(); s == Holds {
			n++
		}
	}
	if n > 1 {
		t.Fatalf("%d hold at once", n)
	}
}

// TestNoneIsPassedOver: one that goes no further, in whatever state it has a ticket, stops those behind it.
func TestNoneIsPassedOver(t *testing.T) {
	for _, place := range []int{Waits, Holds, leaving} {
		m := with(t, 0, 0)
		slow := at(t, Lock{}, m, place)
		others := []*Holder{Lock{}.Holder(), Lock{}.Holder()}
		for range 30 {
			for i, h := range others {
				if s := h.Step(m); s != Waits {
					t.Fatalf("place %d: the state of one behind it is %d", place, s)
				}
				wantState(t, h, Waits, uint64(1+i))
			}
		}
		for range 3 {
			slow.Leave()
			slow.Step(m)
		}
		wantState(t, slow, Gone, 0)
		if s := others[1].Step(m); s != Waits {
			t.Errorf("place %d: the last one is at %d", place, s)
		}
		if s := others[0].Step(m); s != Holds {
			t.Errorf("place %d: the next one is at %d", place, s)
		}
	}
}

// TestNoneIsPassedOverByAnError: one that an error ended has served nobody, so that those behind it wait on.
func TestNoneIsPassedOverByAnError(t *testing.T) {
	for _, place := range []int{Waits, leaving} {
		m := with(t, 0, 0)
		ended, other := at(t, Lock{}, m, place), Lock{}.Holder()
		ended.Step(nil)
		wantState(t, ended, Gone, 0)
		for range 10 {
			if s := other.Step(m); s != Waits {
				t.Fatalf("place %d: state %d", place, s)
			}
		}
		wantWords(t, m, 2, 0)
	}
	m := with(t, 0, 0)
	early, other := Lock{}.Holder(), Lock{}.Holder()
	early.Step(nil)
	step(t, other, m, add(0), Waits, 0)
	step(t, other, m, load(1), Holds, 0)
}

// TestHoldersOfOneLockAreApart: what one does is not to be seen in another, but through the memory.
func TestHoldersOfOneLockAreApart(t *testing.T) {
	m, n := with(t, 5, 5), with(t, 9, 0)
	l := Lock{}
	one, other := l.Holder(), l.Holder()
	step(t, one, m, add(0), Waits, 5)
	wantState(t, other, Asks, 0)
	step(t, other, n, add(0), Waits, 9)
	step(t, one, m, load(1), Holds, 5)
	wantLeave(t, one, true)
	wantLeave(t, other, false)
	step(t, other, n, load(1), Waits, 9)
	l.At = 1
	step(t, one, m, store(1, 6), Gone, 5)
	step(t, other, n, load(1), Waits, 9)
}
