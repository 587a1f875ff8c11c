package deque

import (
	"testing"

	"matryoshka/api"
	"matryoshka/mem"
)

// What is alike of all tasks: P7.4, and each step of P7.1 to P7.3 with many deques and positions.

// way is one of the ways in which a task may go on.
type way struct {
	name        string
	begin       func(d Deque) *Task
	top, bottom uint64 // as they are at first
	robbed      int    // ahead of this act another one takes the top's value; never, if it is 0
	acts        []api.Act
	told        result
}

const theValue = 77

// held is the value that stands in a position's slot at first.
func held(d Deque, p uint64) uint64 { return 900 + uint64(slotAt(d, p)) }

// ways is all of them, about a position.
func ways(d Deque, p uint64) []way {
	push := func(d Deque) *Task { return d.Push(theValue) }
	top, bottom := d.At, d.At+1
	size := uint64(d.Size)
	slot, next := slotAt(d, p), slotAt(d, p+1)
	pushes := []api.Act{load(bottom), load(top), store(slot, theValue), store(bottom, p+1)}
	popsLast := []api.Act{load(bottom), store(bottom, p), load(top), load(slot), cas(top, p), store(bottom, p+1)}
	popsNone := []api.Act{load(bottom), store(bottom, p-1), load(top), store(bottom, p)}
	steals := []api.Act{load(top), load(bottom), load(slot), cas(top, p)}
	return []way{
		{"push", push, p, p, 0, pushes, all(theValue)},
		{"push of the last one", push, p - size + 1, p, 0, pushes, all(theValue)},
		{"push, full", push, p - size, p, 0, pushes[:2], nothing},
		{"pop", Deque.Pop, p, p + 2, 0, []api.Act{load(bottom), store(bottom, p+1), load(top), load(next)}, all(held(d, p+1))},
		{"pop of the last one", Deque.Pop, p, p + 1, 0, popsLast, all(held(d, p))},
		{"pop of the last one, that is stolen", Deque.Pop, p, p + 1, 4, popsLast, nothing},
		{"pop of nothing", Deque.Pop, p, p, 0, popsNone, nothing},
		{"pop of one that is stolen", Deque.Pop, p - 1, p, 2, popsNone, nothing},
		{"steal", Deque.Steal, p, p + 2, 0, steals, all(held(d, p))},
		{"steal of the last one", Deque.Steal, p, p + 1, 0, steals, all(held(d, p))},
		{"steal of one that is taken", Deque.Steal, p, p + 1, 3, steals, nothing},
		{"steal of nothing", Deque.Steal, p, p, 0, steals[:2], nothing},
		{"steal where the bottom is lowered", Deque.Steal, p, p - 1, 0, steals[:2], nothing},
	}
}

// goTo does the first acts of a way with this memory, and lets the other one take what it takes ahead of the next act.
func (w way) goTo(t *testing.T, d Deque, one *Task, m *mem.Mem, acts int) {
	t.Helper()
	for i := range acts + 1 {
		if i > 0 && i == w.robbed {
			m.Store(d.At, w.top+1)
		}
		if i < acts {
			goOn(t, one, m, w.acts[i])
		}
	}
}

func TestEachWay(t *testing.T) {
	for _, d := range []Deque{{0, 1}, {1, 1}, {0, 2}, {1, 3}, {4, 5}, {2, 63}, {3, 64}} {
		for _, p := range []uint64{0, 1, 2, 3, 4, 5, 62, 63, 64, 65, 127, 128, 1<<32 - 1, 1 << 32, half - 1, half, most - 2, most - 1, most} {
			for _, w := range ways(d, p) {
				m := laid(t, d, w.top, w.bottom)
				one := w.begin(d)
				wantResult(t, one, result{})
				last := len(w.acts) - 1
				w.goTo(t, d, one, m, last)
				step(t, one, m, w.acts[last], w.told)
				wantStill(t, one, m)
			}
		}
	}
}

// TestValuesAreTakenOnce: what is laid into the slot, or the value's place, behind a task's last act on it is not what it has.
func TestValuesAreTakenOnce(t *testing.T) {
	d := Deque{At: 0, Size: 2}
	for _, w := range ways(d, 5) {
		if !w.told.is {
			continue
		}
		m := laid(t, d, w.top, w.bottom)
		one := w.begin(d)
		last := len(w.acts) - 1
		w.goTo(t, d, one, m, last)
		if w.acts[last].At < d.At+2 {
			m.Store(2, 1)
			m.Store(3, 1)
		}
		step(t, one, m, w.acts[last], w.told)
		m.Store(2, 2)
		m.Store(3, 2)
		wantResult(t, one, w.told)
	}
}

// TestNought: a value that is 0 is one, and is told apart from nothing.
func TestNought(t *testing.T) {
	d := Deque{At: 0, Size: 3}
	for _, v := range []uint64{0, 1, 1 << 32, half, most - 1, most} {
		m := laid(t, d, 0, 0)
		for range 2 {
			goAll(t, d.Push(v), m, all(v), load(1), load(0), store(2, v), store(1, 1))
			goAll(t, d.Push(v), m, all(v), load(1), load(0), store(3, v), store(1, 2))
			goAll(t, d.Pop(), m, all(v), load(1), store(1, 1), load(0), load(3))
			goAll(t, d.Pop(), m, all(v), load(1), store(1, 0), load(0), load(2), cas(0, 0), store(1, 1))
			m.Store(0, 0)
			m.Store(1, 1)
			goAll(t, d.Steal(), m, all(v), load(0), load(1), load(2), cas(0, 0))
			m.Store(0, 0)
			m.Store(1, 0)
		}
	}
}

// P7.4: acts with an error.

func TestErrorAtEachStep(t *testing.T) {
	d := Deque{At: 1, Size: 2}
	for _, w := range ways(d, 3) {
		for at := range w.acts {
			for name, none := range map[string]*mem.Mem{"nil": nil, "zero": {}, "short": with(t, 6)} {
				m := laid(t, d, w.top, w.bottom)
				one := w.begin(d)
				w.goTo(t, d, one, m, at)
				words := m.Words(0, m.Len())
				if !one.Step(none) {
					t.Fatalf("%s, step %d, %s: Step = no", w.name, at, name)
				}
				wantResult(t, one, nothing)
				wantStill(t, one, m)
				wantWords(t, m, words...)
				if none.Len() > 0 {
					wantWords(t, none, 6)
				}
			}
		}
	}
}

// TestDequeThatIsNotAllThere: with each number of words the first act on one that is missing ends it; what was laid ahead of it stays.
func TestDequeThatIsNotAllThere(t *testing.T) {
	ended := map[string]int{}
	d := Deque{At: 2, Size: 3}
	for _, p := range []uint64{0, 1, 2, 3, 7} {
		for _, w := range ways(d, p) {
			for there := 1; there < d.At+2+d.Size; there++ {
				m := with(t, laid(t, d, w.top, w.bottom).Words(0, there)...)
				ends := 0
				for ends < len(w.acts) && w.acts[ends].At < there {
					ends++
				}
				one := w.begin(d)
				if ends == len(w.acts) {
					w.goTo(t, d, one, m, ends-1)
					step(t, one, m, w.acts[ends-1], w.told)
					continue
				}
				w.goTo(t, d, one, m, ends)
				words := m.Words(0, there)
				wantNext(t, one, w.acts[ends])
				if !one.Step(m) {
					t.Fatalf("%s, %d words, position %d: Step = no", w.name, there, p)
				}
				wantResult(t, one, nothing)
				wantStill(t, one, m)
				wantWords(t, m, words...)
				ended[w.name]++
			}
		}
	}
	for _, w := range ways(d, 0) {
		if ended[w.name] == 0 {
			t.Errorf("%s: no error came", w.name)
		}
	}
}

// TestErrorBehindTheLastValue: a pop whose cas said yes, but that could not lay the bottom, is done without anything.
func TestErrorBehindTheLastValue(t *testing.T) {
	d := Deque{At: 0, Size: 1}
	m := laid(t, d, 0, 1)
	pop := d.Pop()
	goOn(t, pop, m, load(1), store(1, 0), load(0), load(2), cas(0, 0))
	wantNext(t, pop, store(1, 1))
	if !pop.Step(with(t, 9)) {
		t.Fatal("Step = no")
	}
	wantResult(t, pop, nothing)
	wantStill(t, pop, m)
}

// TestTasksAreApart: what one does is not to be seen in another, but through the memory; the deque is the one that it was.
func TestTasksAreApart(t *testing.T) {
	was := Deque{At: 0, Size: 2}
	for i, w := range ways(was, 3) {
		d := was
		v := ways(was, 8)[i]
		m, n := laid(t, d, w.top, w.bottom), laid(t, d, v.top, v.bottom)
		one, other := w.begin(d), v.begin(d)
		last := len(w.acts) - 1
		w.goTo(t, d, one, m, last)
		wantNext(t, other, v.acts[0])
		wantResult(t, other, result{})
		d.At, d.Size = 1, 3
		step(t, one, m, w.acts[last], w.told)
		v.goTo(t, was, other, n, last)
		step(t, other, n, v.acts[last], v.told)
		wantResult(t, one, w.told)
	}
}
