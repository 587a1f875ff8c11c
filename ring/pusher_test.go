package ring

import "testing"

// P6.2: Pusher, in plain numbers. What it has in common with poppers is in program_test.go.

func TestPusherStepByStep(t *testing.T) {
	q := Ring{At: 2, Size: 2}
	m := ready(t, q)
	p := q.Push(5)
	goOn(t, p, m, load(2), load(4), cas(2, 0))
	wantWords(t, m, 900, 901, 1, 0, 0, 0, 1, 0, 908, 909, 910)
	goOn(t, p, m, store(5, 5))
	wantWords(t, m, 900, 901, 1, 0, 0, 5, 1, 0, 908, 909, 910)
	step(t, p, m, store(4, 1), result{is: true, done: true})
	wantWords(t, m, 900, 901, 1, 0, 1, 5, 1, 0, 908, 909, 910)
	wantStill(t, p, m)

	p = q.Push(6)
	goOn(t, p, m, load(2), load(6), cas(2, 1), store(7, 6))
	step(t, p, m, store(6, 2), result{is: true, done: true})
	wantWords(t, m, 900, 901, 2, 0, 1, 5, 2, 6, 908, 909, 910)

	p = q.Push(7)
	goOn(t, p, m, load(2))
	step(t, p, m, load(4), result{done: true})
	wantWords(t, m, 900, 901, 2, 0, 1, 5, 2, 6, 908, 909, 910)
	wantStill(t, p, m)
}

func TestPusherOfAnyValue(t *testing.T) {
	q := Ring{Size: 2}
	for _, v := range []uint64{0, 1, 2, 1 << 32, 1 << 63, most - 1, most} {
		m := ready(t, q)
		p := q.Push(v)
		goOn(t, p, m, load(0), load(2), cas(0, 0), store(3, v))
		step(t, p, m, store(2, 1), result{is: true, done: true})
		wantPop(t, q, m, v)
	}
}

// TestPusherFull: a ring is full also while the one who pops has claimed the slot, and has not left it.
func TestPusherFull(t *testing.T) {
	q := Ring{Size: 2}
	m := ready(t, q)
	wantPush(t, q, m, 5, true)
	wantPush(t, q, m, 6, true)
	pop := q.Pop()
	for _, a := range []int{1, 2, 1, 3} {
		wantPush(t, q, m, 7, false)
		if pop.Next().At != a {
			t.Fatal(pop.Next())
		}
		pop.Step(m)
	}
	wantPush(t, q, m, 7, false)
	step(t, pop, m, store(2, 2), result{5, true, true})
	wantPush(t, q, m, 7, true)
	wantPop(t, q, m, 6)
	wantPop(t, q, m, 7)
}

// TestTwoPushers: both have the same position at first; the one whose cas says no takes the next one.
func TestTwoPushers(t *testing.T) {
	q := Ring{Size: 3}
	m := ready(t, q)
	one, other := q.Push(5), q.Push(6)
	goOn(t, one, m, load(0), load(2))
	goOn(t, other, m, load(0), load(2), cas(0, 0))
	goOn(t, one, m, cas(0, 0), load(0), load(4), cas(0, 1), store(5, 5))
	step(t, one, m, store(4, 2), result{is: true, done: true})
	wantNothing(t, q, m)
	goOn(t, other, m, store(3, 6))
	step(t, other, m, store(2, 1), result{is: true, done: true})
	wantPop(t, q, m, 6)
	wantPop(t, q, m, 5)
}

// TestPusherThatIsLate: it has loaded a position that others have gone round since; the slot's turn is more, and it begins anew.
func TestPusherThatIsLate(t *testing.T) {
	q := Ring{Size: 2}
	m := ready(t, q)
	late := q.Push(9)
	goOn(t, late, m, load(0))
	wantPush(t, q, m, 5, true)
	goOn(t, late, m, load(2), load(0))
	wantPop(t, q, m, 5)
	wantPush(t, q, m, 6, true)
	wantPush(t, q, m, 7, true)
	goOn(t, late, m, load(4), load(0))
	step(t, late, m, load(4), result{done: true})
}
