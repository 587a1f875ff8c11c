package epoch

import (
	"testing"

	"matryoshka/api"
)

// P10.1: Pin, Unpin, Pinned.

func TestPinWhereThereIsNoCpu(t *testing.T) {
	e := stood(t)
	for _, cpu := range noCpus(4) {
		wantErr(t, "Pin", e.Pin(cpu), api.ErrRange)
		wantErr(t, "Unpin", e.Unpin(cpu), api.ErrRange)
		wantPinned(t, e, cpu, 0, false)
	}
	wantStand(t, e, stoodAt)
}

func TestPinIsAtTheEpoch(t *testing.T) {
	for now := range 6 {
		for cpu := range 4 {
			e := made(t, 4)
			onward(t, e, now)
			wantErr(t, "Pin", e.Pin(cpu), api.OK)
			for other := range 4 {
				if other != cpu {
					wantPinned(t, e, other, 0, false)
				}
			}
			wantPinned(t, e, cpu, now, true)
		}
	}
}

// TestPinTwice: also behind an Advance it stays pinned at the epoch at which it was.
func TestPinTwice(t *testing.T) {
	for now := range 3 {
		e := made(t, 2)
		onward(t, e, now)
		wantErr(t, "Pin", e.Pin(1), api.OK)
		want := stand(e)
		wantErr(t, "Pin", e.Pin(1), api.ErrState)
		wantStand(t, e, want)
		wantAdvance(t, e, true)
		want = stand(e)
		wantErr(t, "Pin", e.Pin(1), api.ErrState)
		wantErr(t, "Pin", e.Pin(1), api.ErrState)
		wantStand(t, e, want)
		wantPinned(t, e, 1, now, true)
		wantAdvance(t, e, false)
	}
}

func TestUnpin(t *testing.T) {
	e := stood(t)
	wantErr(t, "Unpin", e.Unpin(1), api.OK)
	wantPinned(t, e, 1, 0, false)
	wantPinned(t, e, 2, 5, true)
	wantErr(t, "Unpin", e.Unpin(2), api.OK)
	wantStand(t, e, "epoch 5, pinned [], waiting [0 5 10 15 20 30 9223372036854775807], free in turn [[0 10 20 30] [5 9223372036854775807] [15]]")
}

func TestUnpinOfOneThatIsNotPinned(t *testing.T) {
	e := stood(t)
	for _, cpu := range []int{0, 3, 0} {
		wantErr(t, "Unpin", e.Unpin(cpu), api.ErrState)
		wantStand(t, e, stoodAt)
	}
	wantErr(t, "Unpin", e.Unpin(1), api.OK)
	want := stand(e)
	for range 2 {
		wantErr(t, "Unpin", e.Unpin(1), api.ErrState)
		wantStand(t, e, want)
	}
}

// TestPinBehindUnpin: it's pinned at the epoch that is then.
func TestPinBehindUnpin(t *testing.T) {
	e := made(t, 3)
	for now := range 5 {
		onward(t, e, now)
		for range 2 {
			wantErr(t, "Pin", e.Pin(2), api.OK)
			wantPinned(t, e, 2, now, true)
			wantErr(t, "Unpin", e.Unpin(2), api.OK)
			wantPinned(t, e, 2, 0, false)
		}
	}
}

func TestPinned(t *testing.T) {
	e := made(t, 3)
	for range 2 {
		wantPinned(t, e, 0, 0, false)
	}
	wantErr(t, "Pin", e.Pin(0), api.OK)
	for range 2 {
		wantPinned(t, e, 0, 0, true)
	}
	wantAdvance(t, e, true)
	wantPinned(t, e, 0, 0, true)
	wantErr(t, "Pin", e.Pin(2), api.OK)
	wantPinned(t, e, 0, 0, true)
	wantPinned(t, e, 1, 0, false)
	wantPinned(t, e, 2, 1, true)
	wantErr(t, "Unpin", e.Unpin(0), api.OK)
	wantAdvance(t, e, true)
	wantPinned(t, e, 0, 0, false)
	wantPinned(t, e, 2, 1, true)
	wantAdvance(t, e, false)
	wantPinned(t, e, 2, 1, true)
}

// TestPinsStayWhateverElseIsDone: to what waits, and by what can't be done.
func TestPinsStayWhateverElseIsDone(t *testing.T) {
	e := stood(t)
	e.Retire(77)
	e.Retire(77)
	e.Retire(-1)
	e.Free()
	e.Advance()
	e.Pin(4)
	e.Unpin(0)
	for cpu, is := range []bool{false, true, true, false} {
		at := 0
		if is {
			at = 3 + cpu
		}
		wantPinned(t, e, cpu, at, is)
	}
}

// P10.3: Advance.

func TestAdvanceWithNobodyPinned(t *testing.T) {
	for cpus := 1; cpus <= 8; cpus++ {
		e := made(t, cpus)
		for range 10 {
			wantAdvance(t, e, true)
		}
		for cpu := range cpus {
			e.Pin(cpu)
			e.Unpin(cpu)
		}
		wantAdvance(t, e, true)
	}
}

// TestAdvanceWithAllPinnedHere: it goes on once, and no further.
func TestAdvanceWithAllPinnedHere(t *testing.T) {
	for cpus := 1; cpus <= 8; cpus++ {
		e := made(t, cpus)
		onward(t, e, cpus)
		for cpu := range cpus {
			wantErr(t, "Pin", e.Pin(cpu), api.OK)
		}
		wantAdvance(t, e, true)
		for range 3 {
			wantAdvance(t, e, false)
		}
		for cpu := range cpus {
			wantPinned(t, e, cpu, cpus, true)
		}
	}
}

// TestAdvanceWithOneBehind: whichever one it is, and whether the others are pinned at the epoch or not at all.
func TestAdvanceWithOneBehind(t *testing.T) {
	for late := range 8 {
		for others := range 1 << 8 {
			e := made(t, 8)
			onward(t, e, 2)
			wantErr(t, "Pin", e.Pin(late), api.OK)
			wantAdvance(t, e, true)
			for cpu := range 8 {
				if cpu != late && others>>cpu&1 == 1 {
					wantErr(t, "Pin", e.Pin(cpu), api.OK)
				}
			}
			wantAdvance(t, e, false)
			wantErr(t, "Unpin", e.Unpin(late), api.OK)
			wantAdvance(t, e, true)
			wantAdvance(t, e, others&^(1<<late) == 0)
		}
	}
}

// TestAdvanceWithTwoBehind: both have to go.
func TestAdvanceWithTwoBehind(t *testing.T) {
	for one := range 4 {
		for other := range one {
			e := made(t, 4)
			e.Pin(one)
			e.Pin(other)
			wantAdvance(t, e, true)
			wantAdvance(t, e, false)
			wantErr(t, "Unpin", e.Unpin(one), api.OK)
			wantAdvance(t, e, false)
			wantErr(t, "Pin", e.Pin(one), api.OK)
			wantAdvance(t, e, false)
			wantErr(t, "Unpin", e.Unpin(other), api.OK)
			wantAdvance(t, e, true)
		}
	}
}

// TestAdvanceChangesTheEpochAlone: when nothing waits long enough, or nobody is behind, too.
func TestAdvanceChangesTheEpochAlone(t *testing.T) {
	e := stood(t)
	wantAdvance(t, e, false)
	wantStand(t, e, stoodAt)
	wantErr(t, "Unpin", e.Unpin(1), api.OK)
	wantAdvance(t, e, true)
	wantStand(t, e, "epoch 6, pinned [2 at 5], waiting [0 5 10 15 20 30 9223372036854775807], free in turn [[0 5 10 20 30 9223372036854775807] [15] []]")
}
