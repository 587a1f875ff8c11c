package deque

import "testing"

// P7.1: Push, in plain numbers.

func TestPushStepByStep(t *testing.T) {
	d := Deque{At: 2, Size: 2}
	m := laid(t, d, 0, 0)
	push := d.Push(5)
	goOn(t, push, m, load(3), load(2))
	wantWords(t, m, 900, 901, 0, 0, 904, 905, 906, 907, 908)
	goOn(t, push, m, store(4, 5))
	wantWords(t, m, 900, 901, 0, 0, 5, 905, 906, 907, 908)
	step(t, push, m, store(3, 1), all(5))
	wantWords(t, m, 900, 901, 0, 1, 5, 905, 906, 907, 908)
	wantStill(t, push, m)

	goAll(t, d.Push(6), m, all(6), load(3), load(2), store(5, 6), store(3, 2))
	wantWords(t, m, 900, 901, 0, 2, 5, 6, 906, 907, 908)
	goAll(t, d.Push(7), m, nothing, load(3), load(2))
	wantWords(t, m, 900, 901, 0, 2, 5, 6, 906, 907, 908)

	m.Store(2, 1)
	goAll(t, d.Push(8), m, all(8), load(3), load(2), store(4, 8), store(3, 3))
	wantWords(t, m, 900, 901, 1, 3, 8, 6, 906, 907, 908)
	goAll(t, d.Push(9), m, nothing, load(3), load(2))
}

// TestPushAgainstSize: the difference of both ends is a number with a sign, held against Size.
func TestPushAgainstSize(t *testing.T) {
	for _, size := range []int{1, 2, 3, 63, 64} {
		s := uint64(size)
		for _, c := range []struct {
			apart uint64 // bottom without top
			full  bool
		}{
			{0, false}, {s - 1, false}, {s, true}, {s + 1, true}, {s + 2, true}, {2 * s, true}, {s + 64, true},
			{1 << 31, true}, {1 << 32, true}, {1<<32 + s - 1, true}, {1<<32 + s, true}, {half - 2, true}, {half - 1, true},
			// Bottom below top.
			{most, false}, {most - 1, false}, {-s, false}, {-s - 1, false}, {most - 1<<32, false}, {half + 1, false}, {half, false},
		} {
			for _, top := range []uint64{0, 1, 7, half - 1, half, most - s, most - s + 1, most - 1, most} {
				d := Deque{At: 1, Size: size}
				bottom := top + c.apart
				m := laid(t, d, top, bottom)
				if c.full {
					goAll(t, d.Push(5), m, nothing, load(2), load(1))
				} else {
					goAll(t, d.Push(5), m, all(5), load(2), load(1), store(slotAt(d, bottom), 5), store(2, bottom+1))
				}
			}
		}
	}
}

// TestPushAsksOnce: what the ends become behind its loads doesn't matter to a push.
func TestPushAsksOnce(t *testing.T) {
	d := Deque{At: 0, Size: 3}
	m := laid(t, d, 4, 6)
	push := d.Push(5)
	goOn(t, push, m, load(1))
	m.Store(1, 99)
	goOn(t, push, m, load(0))
	m.Store(0, 88)
	goOn(t, push, m, store(2, 5))
	step(t, push, m, store(1, 7), all(5))

	full := d.Push(6)
	m.Store(0, 4)
	goOn(t, full, m, load(1))
	m.Store(0, 5)
	goOn(t, full, m, load(0))
	m.Store(0, 4)
	goOn(t, full, m, store(3, 6))
	step(t, full, m, store(1, 8), all(6))
}

// TestPushIsSeenAtLast: a thief finds nothing till the bottom is laid.
func TestPushIsSeenAtLast(t *testing.T) {
	d := Deque{At: 0, Size: 1}
	m := laid(t, d, 0, 0)
	push := d.Push(5)
	for range 3 {
		wantAlone(t, d.Steal(), m, nothing)
		push.Step(m)
	}
	wantAlone(t, d.Steal(), m, nothing)
	step(t, push, m, store(1, 1), all(5))
	wantAlone(t, d.Steal(), m, all(5))
}
