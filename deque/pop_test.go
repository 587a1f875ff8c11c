package deque

import "testing"

// P7.2: Pop, in plain numbers.

func TestPopStepByStep(t *testing.T) {
	d := Deque{At: 1, Size: 3}
	m := laid(t, d, 4, 6)
	pop := d.Pop()
	goOn(t, pop, m, load(2))
	wantWords(t, m, 900, 4, 6, 903, 904, 905, 906, 907, 908)
	goOn(t, pop, m, store(2, 5))
	wantWords(t, m, 900, 4, 5, 903, 904, 905, 906, 907, 908)
	goOn(t, pop, m, load(1))
	step(t, pop, m, load(5), all(905))
	wantWords(t, m, 900, 4, 5, 903, 904, 905, 906, 907, 908)
	wantStill(t, pop, m)

	pop = d.Pop()
	goOn(t, pop, m, load(2), store(2, 4), load(1), load(4))
	wantWords(t, m, 900, 4, 4, 903, 904, 905, 906, 907, 908)
	goOn(t, pop, m, cas(1, 4))
	wantWords(t, m, 900, 5, 4, 903, 904, 905, 906, 907, 908)
	step(t, pop, m, store(2, 5), all(904))
	wantWords(t, m, 900, 5, 5, 903, 904, 905, 906, 907, 908)
	wantStill(t, pop, m)

	pop = d.Pop()
	goOn(t, pop, m, load(2), store(2, 4), load(1))
	wantWords(t, m, 900, 5, 4, 903, 904, 905, 906, 907, 908)
	step(t, pop, m, store(2, 5), nothing)
	wantWords(t, m, 900, 5, 5, 903, 904, 905, 906, 907, 908)
	wantStill(t, pop, m)
}

// TestPopOfAFreshDeque: below position 0 is 2^64 - 1, for a while.
func TestPopOfAFreshDeque(t *testing.T) {
	d := Deque{At: 0, Size: 2}
	m := with(t, 0, 0, 0, 0)
	pop := d.Pop()
	goOn(t, pop, m, load(1), store(1, most), load(0))
	wantAlone(t, d.Steal(), m, nothing)
	step(t, pop, m, store(1, 0), nothing)
	wantWords(t, m, 0, 0, 0, 0)
}

// TestPopAgainstTop: top above the new bottom, below it, or the same, by the sign of the difference.
func TestPopAgainstTop(t *testing.T) {
	const isAbove, isBelow = 1, -1
	for _, c := range []struct {
		apart uint64 // top without the new bottom
		want  int
	}{
		{0, 0},
		{1, isAbove}, {2, isAbove}, {64, isAbove}, {1 << 32, isAbove}, {half - 2, isAbove}, {half - 1, isAbove},
		{most, isBelow}, {most - 1, isBelow}, {most - 63, isBelow}, {most - 1<<32, isBelow}, {half + 1, isBelow},
		// As far apart as can be: the difference is the least number with a sign.
		{half, isBelow},
	} {
		for _, b := range []uint64{0, 1, 2, 7, 1<<32 - 1, half - 1, half, most - 2, most - 1, most} {
			for _, d := range []Deque{{0, 1}, {1, 3}, {2, 64}} {
				top := b + c.apart
				m := laid(t, d, top, b+1)
				at, slot := d.At, slotAt(d, b)
				pop := d.Pop()
				goOn(t, pop, m, load(at+1), store(at+1, b), load(at))
				switch c.want {
				case 0:
					goOn(t, pop, m, load(slot), cas(at, top))
					step(t, pop, m, store(at+1, b+1), all(held(d, b)))
				case isAbove:
					step(t, pop, m, store(at+1, b+1), nothing)
				case isBelow:
					step(t, pop, m, load(slot), all(held(d, b)))
				}
				wantStill(t, pop, m)
			}
		}
	}
}

// TestPopWhoseCasSaysNo: whatever the top is then, nothing is laid by the cas, and the bottom is above the position again.
func TestPopWhoseCasSaysNo(t *testing.T) {
	d := Deque{At: 0, Size: 2}
	for _, now := range []uint64{6, 4, 0, 5 + 1<<32, most} {
		m := laid(t, d, 5, 6)
		pop := d.Pop()
		goOn(t, pop, m, load(1), store(1, 5), load(0), load(3))
		m.Store(0, now)
		goOn(t, pop, m, cas(0, 5))
		wantWords(t, m, now, 5, 902, 903, 904, 905, 906)
		step(t, pop, m, store(1, 6), nothing)
		wantWords(t, m, now, 6, 902, 903, 904, 905, 906)
		wantStill(t, pop, m)
	}
}

// TestPopAsksOnce: the top and the bottom are what they were at the load of them.
func TestPopAsksOnce(t *testing.T) {
	d := Deque{At: 0, Size: 2}
	m := laid(t, d, 5, 8)
	pop := d.Pop()
	goOn(t, pop, m, load(1))
	m.Store(1, 99)
	goOn(t, pop, m, store(1, 7), load(0))
	m.Store(0, 7)
	step(t, pop, m, load(3), all(903))
	wantWords(t, m, 7, 7, 902, 903, 904, 905, 906)
}
