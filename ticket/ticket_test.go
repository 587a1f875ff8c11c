package ticket

import (
	"math"
	"slices"
	"testing"

	"matryoshka/api"
	"matryoshka/mem"
)

const most = math.MaxUint64

// with is a memory of these words.
func with(t *testing.T, l ...uint64) *mem.Mem {
	t.Helper()
	m, e := mem.New(len(l))
	if e != api.OK {
		t.Fatal(e)
	}
	for at, v := range l {
		if e := m.Store(at, v); e != api.OK {
			t.Fatal(e)
		}
	}
	return m
}

func wantWords(t *testing.T, m *mem.Mem, want ...uint64) {
	t.Helper()
	if l := m.Words(0, m.Len()); !slices.Equal(l, want) {
		t.Errorf("words %v, want %v", l, want)
	}
}

func add(at int) api.Act             { return api.Act{Kind: api.ActAdd, At: at, A: 1} }
func load(at int) api.Act            { return api.Act{Kind: api.ActLoad, At: at} }
func store(at int, v uint64) api.Act { return api.Act{Kind: api.ActStore, At: at, A: v} }

// noMemories is memories in which every act on a lock at the word 1 has an error.
func noMemories(t *testing.T) map[string]*mem.Mem {
	return map[string]*mem.Mem{"nil": nil, "zero": {}, "short": with(t, 6)}
}

func wantState(t *testing.T, h *Holder, state int, ticket uint64) {
	t.Helper()
	for range 2 {
		if s, n := h.State(); s != state || n != ticket {
			t.Fatalf("State = %d, %d, want %d, %d", s, n, state, ticket)
		}
	}
}

func wantNext(t *testing.T, h *Holder, want api.Act) {
	t.Helper()
	for range 2 {
		if a := h.Next(); a != want {
			t.Fatalf("Next = %v, want %v", a, want)
		}
	}
}

// step does a step whose act is to be want, and that is to lead to this state; it does that one act and no other.
func step(t *testing.T, h *Holder, m *mem.Mem, want api.Act, state int, ticket uint64) {
	t.Helper()
	wantNext(t, h, want)
	was, _ := m.Count()
	if s := h.Step(m); s != state {
		t.Fatalf("%v: Step = %d, want %d", want, s, state)
	}
	if now, _ := m.Count(); now != was+1 {
		t.Fatalf("%v: %d acts in one step", want, now-was)
	}
	wantState(t, h, state, ticket)
}

// wantStill: one without a next act stays as it is, and does nothing, with any memory.
func wantStill(t *testing.T, h *Holder, m *mem.Mem) {
	t.Helper()
	words := m.Words(0, m.Len())
	acts, laid := m.Count()
	state, ticket := h.State()
	for range 3 {
		wantNext(t, h, api.Act{})
		for _, m := range []*mem.Mem{m, nil, {}} {
			if s := h.Step(m); s != state {
				t.Fatalf("Step = %d of one without a next act, want %d", s, state)
			}
		}
		wantState(t, h, state, ticket)
	}
	wantWords(t, m, words...)
	if a, l := m.Count(); a != acts || l != laid {
		t.Errorf("one without a next act did %d acts", a-acts)
	}
}

func wantLeave(t *testing.T, h *Holder, want bool) {
	t.Helper()
	if got := h.Leave(); got != want {
		t.Fatalf("Leave = %t, want %t", got, want)
	}
}

// leaving is a place on the way beside the states: it holds, and wants to leave.
const leaving = Gone + 1

// at is a holder of this lock, at a place on its way; the memory is to serve it at once.
func at(t *testing.T, l Lock, m *mem.Mem, place int) *Holder {
	t.Helper()
	h := l.Holder()
	steps := map[int]int{Asks: 0, Waits: 1, Holds: 2, leaving: 2, Gone: 2}[place]
	for range steps {
		h.Step(m)
	}
	if place == leaving || place == Gone {
		wantLeave(t, h, true)
	}
	if place == Gone {
		h.Step(m)
	}
	if s, _ := h.State(); s != place && place != leaving {
		t.Fatalf("state %d, want %d", s, place)
	}
	return h
}

func TestStatesStandInTheirOrder(t *testing.T) {
	if Asks != 0 || Waits != 1 || Holds != 2 || Gone != 3 {
		t.Error(Asks, Waits, Holds, Gone)
	}
}

// The line ahead of the promises: which locks there are, and what nil and zero holders answer.

func TestWhichLocksAre(t *testing.T) {
	for at, want := range map[int]bool{
		0: true, 1: true, 64999: true, 65000: true,
		-1: false, -65000: false, 65001: false, 65535: false, 65536: false, 1 << 32: false, 1<<32 + 1: false, math.MaxInt: false, math.MinInt: false,
	} {
		h := Lock{At: at}.Holder()
		if got := h != nil; got != want {
			t.Errorf("at %d: Holder answers one: %t", at, got)
		}
		if want {
			wantState(t, h, Asks, 0)
		}
	}
}

func TestHoldersOfNone(t *testing.T) {
	m := with(t, 0, 0)
	for name, h := range map[string]*Holder{"nil": nil, "zero": {}, "of no lock": Lock{At: -1}.Holder(), "beyond": Lock{At: 65001}.Holder()} {
		for range 4 {
			for _, m := range []*mem.Mem{m, nil, {}} {
				if s := h.Step(m); s != 0 {
					t.Errorf("%s: Step = %d", name, s)
				}
			}
			if a := h.Next(); a != (api.Act{}) {
				t.Errorf("%s: Next = %v", name, a)
			}
			if h.Leave() {
				t.Errorf("%s: Leave = yes", name)
			}
			if s, n := h.State(); s != 0 || n != 0 {
				t.Errorf("%s: State = %d, %d", name, s, n)
			}
		}
	}
	wantWords(t, m, 0, 0)
	if acts, _ := m.Count(); acts != 2 {
		t.Errorf("%d acts were done", acts-2)
	}
}

// P5.1: Next.

func TestNextInEachState(t *testing.T) {
	for _, where := range []int{0, 1, 7} {
		for _, first := range []uint64{0, 1, 5, 1 << 32, most - 1, most} {
			wants := map[int]api.Act{
				Asks:    add(where),
				Waits:   load(where + 1),
				Holds:   {},
				leaving: store(where+1, first+1),
				Gone:    {},
			}
			for place, want := range wants {
				m := with(t, make([]uint64, where+3)...)
				m.Store(where, first)
				m.Store(where+1, first)
				h := at(t, Lock{At: where}, m, place)
				acts, _ := m.Count()
				wantNext(t, h, want)
				if now, _ := m.Count(); now != acts {
					t.Errorf("place %d: Next did an act", place)
				}
			}
		}
	}
}

// TestNextOfTwo: one whose ticket is not served has a load to do; the ticket it waits for doesn't matter.
func TestNextOfTwo(t *testing.T) {
	m := with(t, 0, 0)
	first, second := Lock{}.Holder(), Lock{}.Holder()
	wantNext(t, first, add(0))
	wantNext(t, second, add(0))
	first.Step(m)
	second.Step(m)
	wantNext(t, first, load(1))
	wantNext(t, second, load(1))
	second.Step(m)
	wantNext(t, second, load(1))
}

func TestNextBehindAnError(t *testing.T) {
	for _, place := range []int{Asks, Waits, leaving} {
		for name, none := range noMemories(t) {
			m := with(t, 6, 0, 0)
			h := at(t, Lock{At: 1}, m, place)
			h.Step(none)
			if a := h.Next(); a != (api.Act{}) {
				t.Errorf("place %d, %s: Next = %v", place, name, a)
			}
		}
	}
}

// P5.2: Step.

func TestHolderAlone(t *testing.T) {
	for _, where := range []int{0, 1, 5} {
		for _, first := range []uint64{0, 1, 2, 1 << 32, 1<<63 - 1, 1 << 63, most - 1, most} {
			words := make([]uint64, where+3)
			for i := range words {
				words[i] = 100 + uint64(i)
			}
			words[where], words[where+1] = first, first
			m := with(t, words...)
			h := Lock{At: where}.Holder()
			wantState(t, h, Asks, 0)

			step(t, h, m, add(where), Waits, first)
			words[where] = first + 1
			wantWords(t, m, words...)

			step(t, h, m, load(where+1), Holds, first)
			wantWords(t, m, words...)
			wantStill(t, h, m)

			wantLeave(t, h, true)
			wantState(t, h, Holds, first)
			wantWords(t, m, words...)

			step(t, h, m, store(where+1, first+1), Gone, first)
			words[where+1] = first + 1
			wantWords(t, m, words...)
			wantStill(t, h, m)
		}
	}
}

func TestHolderAtTheGreatestPlace(t *testing.T) {
	m, _ := mem.New(65536)
	h := Lock{At: 65000}.Holder()
	step(t, h, m, add(65000), Waits, 0)
	step(t, h, m, load(65001), Holds, 0)
	wantLeave(t, h, true)
	step(t, h, m, store(65001, 1), Gone, 0)
	if l := m.Words(64999, 4); !slices.Equal(l, []uint64{0, 1, 1, 0}) {
		t.Error(l)
	}
}

// TestWaits: one whose ticket is not served yet waits, as often as it's stepped; a ticket that is less or greater isn't its own.
func TestWaits(t *testing.T) {
	for _, c := range []struct{ ticket, other uint64 }{
		{1, 0}, {2, 1}, {5, 0}, {0, 1}, {0, most}, {most, 0}, {most, most - 1}, {most - 1, most}, {0, 1 << 32}, {1 << 32, 0}, {0, 1 << 63}, {7, 7 + 1<<32}, {7, 9},
	} {
		m := with(t, c.ticket, c.other)
		h := Lock{}.Holder()
		step(t, h, m, add(0), Waits, c.ticket)
		for range 20 {
			step(t, h, m, load(1), Waits, c.ticket)
			wantLeave(t, h, false)
		}
		wantWords(t, m, c.ticket+1, c.other)
		m.Store(1, c.ticket)
		step(t, h, m, load(1), Holds, c.ticket)
		wantLeave(t, h, true)
		step(t, h, m, store(1, c.ticket+1), Gone, c.ticket)
		wantWords(t, m, c.ticket+1, c.ticket+1)
	}
}

// TestServedButNotStepped: one holds only by a step of its own.
func TestServedButNotStepped(t *testing.T) {
	m := with(t, 4, 0)
	h := Lock{}.Holder()
	h.Step(m)
	m.Store(1, 4)
	wantState(t, h, Waits, 4)
	wantLeave(t, h, false)
	step(t, h, m, load(1), Holds, 4)
}

// TestHoldsWhateverTheWordIs: once it holds, it asks no more what is served, and leaves by its own ticket.
func TestHoldsWhateverTheWordIs(t *testing.T) {
	m := with(t, 3, 3)
	h := at(t, Lock{}, m, Holds)
	m.Store(0, 90)
	m.Store(1, 80)
	wantStill(t, h, m)
	wantLeave(t, h, true)
	step(t, h, m, store(1, 4), Gone, 3)
	wantWords(t, m, 90, 4)
}

// TestTicketsModulo: behind the greatest ticket comes 0.
func TestTicketsModulo(t *testing.T) {
	m := with(t, most, most)
	first, second := Lock{}.Holder(), Lock{}.Holder()
	step(t, first, m, add(0), Waits, most)
	step(t, second, m, add(0), Waits, 0)
	wantWords(t, m, 1, most)
	step(t, second, m, load(1), Waits, 0)
	step(t, first, m, load(1), Holds, most)
	wantLeave(t, first, true)
	step(t, first, m, store(1, 0), Gone, most)
	step(t, second, m, load(1), Holds, 0)
	wantLeave(t, second, true)
	step(t, second, m, store(1, 1), Gone, 0)
	wantWords(t, m, 1, 1)
}

// TestErrorAtEachStep: no memory, or none that has the words: gone at once, with the ticket that it has, and for good.
func TestErrorAtEachStep(t *testing.T) {
	for _, place := range []int{Asks, Waits, leaving} {
		for name, none := range noMemories(t) {
			m := with(t, 6, 9, 9)
			h := at(t, Lock{At: 1}, m, place)
			_, ticket := h.State()
			if has := place != Asks; has != (ticket == 9) {
				t.Fatalf("ticket %d at place %d", ticket, place)
			}
			words := m.Words(0, m.Len())
			if s := h.Step(none); s != Gone {
				t.Errorf("place %d, %s: Step = %d", place, name, s)
			}
			wantState(t, h, Gone, ticket)
			wantStill(t, h, m)
			wantLeave(t, h, false)
			wantWords(t, m, words...)
			if name == "short" {
				wantWords(t, none, 6)
			}
		}
	}
}

// TestNoErrorWithoutAnAct: where nothing is to be done, a memory that is none is no error.
func TestNoErrorWithoutAnAct(t *testing.T) {
	for name, none := range noMemories(t) {
		m := with(t, 6, 9, 9)
		h := at(t, Lock{At: 1}, m, Holds)
		for range 3 {
			if s := h.Step(none); s != Holds {
				t.Fatalf("%s: Step = %d", name, s)
			}
		}
		wantLeave(t, h, true)
		step(t, h, m, store(2, 10), Gone, 9)
		if s := h.Step(none); s != Gone {
			t.Errorf("%s: Step = %d", name, s)
		}
	}
}

func TestWordsThatAreNotAllThere(t *testing.T) {
	m := with(t, 4, 5)
	h := Lock{At: 2}.Holder()
	if s := h.Step(m); s != Gone {
		t.Error("no word of it is there:", s)
	}
	wantState(t, h, Gone, 0)
	wantStill(t, h, m)

	h = Lock{At: 1}.Holder()
	step(t, h, m, add(1), Waits, 5)
	if s := h.Step(m); s != Gone {
		t.Error("one word of it is there:", s)
	}
	wantState(t, h, Gone, 5)
	wantStill(t, h, m)
	wantWords(t, m, 4, 6)

	if s := (Lock{At: 65000}).Holder().Step(m); s != Gone {
		t.Error(s)
	}
}

// P5.3: Leave and State.

func TestLeaveInEachState(t *testing.T) {
	for place, want := range map[int]bool{Asks: false, Waits: false, Holds: true, leaving: false, Gone: false} {
		m := with(t, 8, 8)
		h := at(t, Lock{}, m, place)
		state, ticket := h.State()
		next := h.Next()
		words := m.Words(0, 2)
		acts, _ := m.Count()
		wantLeave(t, h, want)
		wantLeave(t, h, false)
		wantState(t, h, state, ticket)
		if want {
			next = store(1, 9)
		}
		wantNext(t, h, next)
		wantWords(t, m, words...)
		if now, _ := m.Count(); now != acts {
			t.Errorf("place %d: Leave did an act", place)
		}
	}
}

// TestLeaveThatWasRefused leaves no wish behind.
func TestLeaveThatWasRefused(t *testing.T) {
	m := with(t, 0, 0)
	h := Lock{}.Holder()
	wantLeave(t, h, false)
	h.Step(m)
	wantLeave(t, h, false)
	step(t, h, m, load(1), Holds, 0)
	wantStill(t, h, m)
	wantLeave(t, h, true)
	step(t, h, m, store(1, 1), Gone, 0)
	wantLeave(t, h, false)
	wantStill(t, h, m)
}

func TestStateInEachState(t *testing.T) {
	for _, first := range []uint64{0, 8, most} {
		for place, ticket := range map[int]uint64{Asks: 0, Waits: first, Holds: first, leaving: first, Gone: first} {
			m := with(t, first, first)
			h := at(t, Lock{}, m, place)
			state := place
			if place == leaving {
				state = Holds
			}
			wantState(t, h, state, ticket)
		}
	}
}

// The example of the chapter.
func TestExample(t *testing.T) {
	m := with(t, 0, 0)
	l := Lock{}
	first, second := l.Holder(), l.Holder()
	step(t, first, m, add(0), Waits, 0)
	step(t, second, m, add(0), Waits, 1)
	step(t, second, m, load(1), Waits, 1)
	step(t, first, m, load(1), Holds, 0)
	step(t, second, m, load(1), Waits, 1)
	wantLeave(t, first, true)
	step(t, second, m, load(1), Waits, 1)
	step(t, first, m, store(1, 1), Gone, 0)
	step(t, second, m, load(1), Holds, 1)
}
