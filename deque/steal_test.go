package deque

import "testing"

// P7.3: Steal, in plain numbers.

func TestStealStepByStep(t *testing.T) {
	d := Deque{At: 1, Size: 3}
	m := laid(t, d, 4, 6)
	steal := d.Steal()
	goOn(t, steal, m, load(1), load(2), load(4))
	wantWords(t, m, 900, 4, 6, 903, 904, 905, 906, 907, 908)
	step(t, steal, m, cas(1, 4), all(904))
	wantWords(t, m, 900, 5, 6, 903, 904, 905, 906, 907, 908)
	wantStill(t, steal, m)

	goAll(t, d.Steal(), m, all(905), load(1), load(2), load(5), cas(1, 5))
	wantWords(t, m, 900, 6, 6, 903, 904, 905, 906, 907, 908)
	goAll(t, d.Steal(), m, nothing, load(1), load(2))
	wantWords(t, m, 900, 6, 6, 903, 904, 905, 906, 907, 908)
}

// TestStealAgainstBottom: top below bottom or not, by the sign of the difference.
func TestStealAgainstBottom(t *testing.T) {
	for _, c := range []struct {
		apart uint64 // top without bottom
		below bool
	}{
		{0, false}, {1, false}, {2, false}, {64, false}, {1 << 32, false}, {half - 2, false}, {half - 1, false},
		{most, true}, {most - 1, true}, {most - 63, true}, {most - 1<<32, true}, {half + 1, true},
		// As far apart as can be: the difference is the least number with a sign.
		{half, true},
	} {
		for _, top := range []uint64{0, 1, 2, 7, 1<<32 - 1, half - 1, half, most - 2, most - 1, most} {
			for _, d := range []Deque{{0, 1}, {1, 3}, {2, 64}} {
				m := laid(t, d, top, top-c.apart)
				at := d.At
				if c.below {
					goAll(t, d.Steal(), m, all(held(d, top)), load(at), load(at+1), load(slotAt(d, top)), cas(at, top))
				} else {
					goAll(t, d.Steal(), m, nothing, load(at), load(at+1))
				}
			}
		}
	}
}

// TestStealWhoseCasSaysNo: whatever the top is then, nothing is laid, and it does not begin anew.
func TestStealWhoseCasSaysNo(t *testing.T) {
	d := Deque{At: 0, Size: 2}
	for _, now := range []uint64{6, 4, 0, 5 + 1<<32, most} {
		m := laid(t, d, 5, 7)
		steal := d.Steal()
		goOn(t, steal, m, load(0), load(1), load(3))
		m.Store(0, now)
		step(t, steal, m, cas(0, 5), nothing)
		wantWords(t, m, now, 7, 902, 903, 904, 905, 906)
		wantStill(t, steal, m)
	}
}

// TestStealAsksOnce: the bottom is what it was at the load of it; the cas alone tells.
func TestStealAsksOnce(t *testing.T) {
	d := Deque{At: 0, Size: 2}
	m := laid(t, d, 5, 6)
	steal := d.Steal()
	goOn(t, steal, m, load(0), load(1))
	m.Store(1, 5)
	goOn(t, steal, m, load(3))
	step(t, steal, m, cas(0, 5), all(903))
}

// TestTwoThieves: both are at one position; the cas of the first one says yes.
func TestTwoThieves(t *testing.T) {
	d := Deque{At: 0, Size: 2}
	m := laid(t, d, 0, 2)
	one, other := d.Steal(), d.Steal()
	goOn(t, one, m, load(0), load(1), load(2))
	goOn(t, other, m, load(0), load(1), load(2))
	step(t, other, m, cas(0, 0), all(902))
	step(t, one, m, cas(0, 0), nothing)
	wantAlone(t, d.Steal(), m, all(903))
	wantAlone(t, d.Steal(), m, nothing)
}

// TestThiefThatIsLate: the owner has gone round the slots since it loaded the value; its cas says no, and what is there now is not lost.
func TestThiefThatIsLate(t *testing.T) {
	for steps := 1; steps <= 3; steps++ {
		d := Deque{At: 0, Size: 1}
		m := laid(t, d, 0, 0)
		wantAlone(t, d.Push(5), m, all(5))
		late := d.Steal()
		goOn(t, late, m, load(0), load(1), load(2))
		wantAlone(t, d.Pop(), m, all(5))
		for range steps {
			wantAlone(t, d.Push(6), m, all(6))
			wantAlone(t, d.Pop(), m, all(6))
		}
		wantAlone(t, d.Push(7), m, all(7))
		step(t, late, m, cas(0, 0), nothing)
		wantAlone(t, d.Steal(), m, all(7))
	}
}

// TestThiefAgainstOwner: of the last value, at which both are, the first cas tells whose it is.
func TestThiefAgainstOwner(t *testing.T) {
	for _, thiefFirst := range []bool{true, false} {
		d := Deque{At: 0, Size: 2}
		m := laid(t, d, 0, 1)
		pop, steal := d.Pop(), d.Steal()
		goOn(t, steal, m, load(0), load(1), load(2))
		goOn(t, pop, m, load(1), store(1, 0), load(0), load(2))
		if thiefFirst {
			step(t, steal, m, cas(0, 0), all(902))
			goOn(t, pop, m, cas(0, 0))
			step(t, pop, m, store(1, 1), nothing)
		} else {
			goOn(t, pop, m, cas(0, 0))
			step(t, steal, m, cas(0, 0), nothing)
			step(t, pop, m, store(1, 1), all(902))
		}
		if l := m.Words(0, 2); l[0] != 1 || l[1] != 1 {
			t.Error(l)
		}
	}
}
