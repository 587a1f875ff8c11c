package ring

import "testing"

// P6.3: Popper, in plain numbers. What it has in common with pushers is in program_test.go.

func TestPopperStepByStep(t *testing.T) {
	q := Ring{At: 1, Size: 3}
	m := ready(t, q)
	wantPush(t, q, m, 5, true)
	wantPush(t, q, m, 6, true)
	wantWords(t, m, 900, 2, 0, 1, 5, 2, 6, 2, 0, 909, 910, 911)
	p := q.Pop()
	goOn(t, p, m, load(2), load(3), cas(2, 0))
	wantWords(t, m, 900, 2, 1, 1, 5, 2, 6, 2, 0, 909, 910, 911)
	goOn(t, p, m, load(4))
	step(t, p, m, store(3, 3), result{5, true, true})
	wantWords(t, m, 900, 2, 1, 3, 5, 2, 6, 2, 0, 909, 910, 911)
	wantStill(t, p, m)

	p = q.Pop()
	goOn(t, p, m, load(2), load(5), cas(2, 1), load(6))
	step(t, p, m, store(5, 4), result{6, true, true})

	p = q.Pop()
	goOn(t, p, m, load(2))
	step(t, p, m, load(7), result{done: true})
	wantWords(t, m, 900, 2, 2, 3, 5, 4, 6, 2, 0, 909, 910, 911)
	wantStill(t, p, m)
}

// TestPopperOfNought: a value that is 0 is one, and is told apart from nothing.
func TestPopperOfNought(t *testing.T) {
	q := Ring{Size: 2}
	m := ready(t, q)
	wantNothing(t, q, m)
	wantPush(t, q, m, 0, true)
	p := q.Pop()
	goOn(t, p, m, load(1), load(2), cas(1, 0), load(3))
	step(t, p, m, store(2, 2), result{0, true, true})
	wantNothing(t, q, m)
}

// TestPopperLeaves: the turn that it lays is its position and Size, whatever the size is.
func TestPopperLeaves(t *testing.T) {
	for _, size := range []int{2, 3, 4, 5, 63, 64} {
		q := Ring{Size: size}
		m := ready(t, q)
		for p := range uint64(3 * size) {
			wantPush(t, q, m, 100+p, true)
			wantPop(t, q, m, 100+p)
			if l := m.Words(turnAt(q, p), 1); l[0] != p+uint64(size) {
				t.Fatalf("size %d, position %d: turn %d", size, p, l[0])
			}
		}
	}
}

// TestPopperValueIsTakenOnce: what is laid into the slot behind its load is not what it has.
func TestPopperValueIsTakenOnce(t *testing.T) {
	q := Ring{Size: 2}
	m := ready(t, q)
	wantPush(t, q, m, 5, true)
	p := q.Pop()
	goOn(t, p, m, load(1), load(2), cas(1, 0), load(3))
	m.Store(3, 99)
	step(t, p, m, store(2, 2), result{5, true, true})
}

// TestTwoPoppers: both have the same position at first; the one whose cas says no takes the next one, or finds nothing.
func TestTwoPoppers(t *testing.T) {
	for _, second := range []bool{false, true} {
		q := Ring{Size: 2}
		m := ready(t, q)
		wantPush(t, q, m, 5, true)
		if second {
			wantPush(t, q, m, 6, true)
		}
		one, other := q.Pop(), q.Pop()
		goOn(t, one, m, load(1), load(2))
		goOn(t, other, m, load(1), load(2), cas(1, 0))
		goOn(t, one, m, cas(1, 0), load(1))
		if second {
			goOn(t, one, m, load(4), cas(1, 1), load(5))
			step(t, one, m, store(4, 3), result{6, true, true})
		} else {
			step(t, one, m, load(4), result{done: true})
		}
		goOn(t, other, m, load(3))
		step(t, other, m, store(2, 2), result{5, true, true})
	}
}

// TestPopperThatIsLate: others have popped its position, or gone round, since it loaded that; the slot's turn is more, and it begins anew.
func TestPopperThatIsLate(t *testing.T) {
	q := Ring{Size: 2}
	m := ready(t, q)
	late := q.Pop()
	goOn(t, late, m, load(1))
	wantPush(t, q, m, 5, true)
	wantPop(t, q, m, 5)
	goOn(t, late, m, load(2), load(1))
	wantPush(t, q, m, 6, true)
	wantPop(t, q, m, 6)
	wantPush(t, q, m, 7, true)
	wantPush(t, q, m, 8, true)
	goOn(t, late, m, load(4), load(1), load(2), cas(1, 2), load(3))
	step(t, late, m, store(2, 4), result{7, true, true})
}

// TestPusherThatStops: one that has claimed its slot, and goes no further, stops those who pop; also what others pushed behind it.
func TestPusherThatStops(t *testing.T) {
	for steps := 3; steps <= 4; steps++ {
		q := Ring{Size: 3}
		m := ready(t, q)
		stops := q.Push(5)
		for range steps {
			stops.Step(m)
		}
		wantNothing(t, q, m)
		wantPush(t, q, m, 6, true)
		wantNothing(t, q, m)
		wantPush(t, q, m, 7, true)
		wantPush(t, q, m, 8, false)
		wantNothing(t, q, m)
		if r := finish(t, stops, m); r != (result{is: true, done: true}) {
			t.Fatal(r)
		}
		wantPop(t, q, m, 5)
		wantPop(t, q, m, 6)
		wantPop(t, q, m, 7)
		wantNothing(t, q, m)
	}
}
