package epoch

import (
	"fmt"
	"slices"
	"testing"

	"matryoshka/api"
)

// P10.2: Retire.

func TestRetireOfWrongNumbers(t *testing.T) {
	e := stood(t)
	for _, f := range []int{-1, -2, -15, -4096, -1 << 32, least, least + 1, least + 15} {
		for range 2 {
			wantErr(t, fmt.Sprint("Retire of ", f), e.Retire(f), api.ErrArg)
		}
	}
	wantStand(t, e, stoodAt)
}

func TestRetire(t *testing.T) {
	for _, f := range []int{0, 1, 2, 4095, 4096, 65535, 65536, 1 << 32, greatest - 1, greatest} {
		for now := range 4 {
			e := made(t, 2)
			onward(t, e, now)
			retire(t, e, f)
			wantStand(t, e, fmt.Sprintf("epoch %d, pinned [], waiting [%d], free in turn [[] [] [%d]]", now, f, f))
		}
	}
}

// TestRetireTwice: also in a later epoch, and where it could be freed, it waits since the epoch at first.
func TestRetireTwice(t *testing.T) {
	e := made(t, 2)
	onward(t, e, 3)
	retire(t, e, 7, 0)
	for later := range 5 {
		onward(t, e, 3+later)
		want := stand(e)
		for _, f := range []int{7, 0, 7} {
			wantErr(t, "Retire", e.Retire(f), api.ErrTwice)
			wantStand(t, e, want)
		}
		var free []int
		if later >= 2 {
			free = []int{0, 7}
		}
		wantList(t, "Free", e.Copy().Free(), free...)
	}
}

func TestRetireOfOneThatWasFreed(t *testing.T) {
	e := made(t, 1)
	for n := range 4 {
		retire(t, e, 7)
		wantStand(t, e, fmt.Sprintf("epoch %d, pinned [], waiting [7], free in turn [[] [] [7]]", 2*n))
		wantErr(t, "Retire", e.Retire(7), api.ErrTwice)
		onward(t, e, 2*n+2)
		wantErr(t, "Retire", e.Retire(7), api.ErrTwice)
		wantList(t, "Free", e.Free(), 7)
		wantList(t, "Waiting", e.Waiting())
	}
}

// TestRetireIsTheSameWhoeverIsPinned: a pin keeps back Advance alone.
func TestRetireIsTheSameWhoeverIsPinned(t *testing.T) {
	e := stood(t)
	retire(t, e, 99)
	wantErr(t, "Retire", e.Retire(99), api.ErrTwice)
	wantErr(t, "Retire", e.Retire(30), api.ErrTwice)
	wantStand(t, e, "epoch 5, pinned [1 at 4 2 at 5], waiting [0 5 10 15 20 30 99 9223372036854775807], free in turn [[0 10 20 30] [5 9223372036854775807] [15 99]]")
}

// P10.2: Waiting.

func permutations(l []int) [][]int {
	if len(l) == 0 {
		return [][]int{nil}
	}
	var all [][]int
	for n, one := range l {
		for _, rest := range permutations(slices.Delete(slices.Clone(l), n, n+1)) {
			all = append(all, append([]int{one}, rest...))
		}
	}
	return all
}

// TestWaitingIsRising: in whatever order, and in whatever epochs, they were retired; Free too.
func TestWaitingIsRising(t *testing.T) {
	want := []int{0, 2, 10, 11, 300, greatest}
	for _, l := range permutations(want) {
		e := made(t, 1)
		retire(t, e, l[:3]...)
		wantAdvance(t, e, true)
		retire(t, e, l[3:]...)
		wantList(t, "Waiting", e.Waiting(), want...)
		onward(t, e, 3)
		wantList(t, "Free", e.Free(), want...)
	}
}

func TestWaitingOfMany(t *testing.T) {
	e := made(t, 1)
	var want []int
	for n := range 5000 {
		retire(t, e, n*7919%5000*3)
		want = append(want, n*3)
		if n%500 == 0 {
			wantAdvance(t, e, true)
		}
	}
	for range 3 {
		wantList(t, "Waiting", e.Waiting(), want...)
	}
	onward(t, e, 12)
	wantList(t, "Free", e.Free(), want...)
	wantList(t, "Waiting", e.Waiting())
}

// spoil writes into a list, and into the room behind it.
func spoil(l []int) {
	l = l[:cap(l)]
	for i := range l {
		l[i] = 99
	}
}

// TestListsAreNew: the room behind them too, and no two of them share any.
func TestListsAreNew(t *testing.T) {
	e := stood(t)
	l, other := e.Waiting(), e.Waiting()
	spoil(l)
	wantList(t, "the other list", other, 0, 5, 10, 15, 20, 30, greatest)
	wantStand(t, e, stoodAt)

	free := e.Free()
	wantList(t, "the list from before", other, 0, 5, 10, 15, 20, 30, greatest)
	want := stand(e)
	spoil(free)
	spoil(other)
	wantStand(t, e, want)
	wantList(t, "Waiting", e.Waiting(), 5, 15, greatest)

	l = e.Waiting()
	retire(t, e, 1, 2)
	wantList(t, "the list from before", l, 5, 15, greatest)
}

// P10.3: Free.

// TestFreeIsJustWhatWaitsLong: what was retired two epochs ago or more, and nothing of this epoch or the one before.
func TestFreeIsJustWhatWaitsLong(t *testing.T) {
	e := made(t, 1)
	var all []int
	for now := range 20 {
		retire(t, e, 100-now, 200+now)
		all = append(all, 100-now, 200+now)
		free := slices.Sorted(slices.Values(all[:max(0, 2*(now-1))]))
		stay := slices.Sorted(slices.Values(all[max(0, 2*(now-1)):]))
		c := e.Copy()
		wantList(t, "Free", c.Free(), free...)
		wantList(t, "Waiting", c.Waiting(), stay...)
		wantAdvance(t, e, true)
	}
}

func TestFreeLeavesTheOthers(t *testing.T) {
	e := stood(t)
	wantList(t, "Free", e.Free(), 0, 10, 20, 30)
	for range 2 {
		wantStand(t, e, "epoch 5, pinned [1 at 4 2 at 5], waiting [5 15 9223372036854775807], free in turn [[] [5 9223372036854775807] [15]]")
		wantList(t, "Free", e.Free())
	}
	wantErr(t, "Retire", e.Retire(5), api.ErrTwice)
	retire(t, e, 10)
	wantStand(t, e, "epoch 5, pinned [1 at 4 2 at 5], waiting [5 10 15 9223372036854775807], free in turn [[] [5 9223372036854775807] [10 15]]")
}

// TestFreeWithNothing: that waits at all, or long enough.
func TestFreeWithNothing(t *testing.T) {
	e := made(t, 2)
	for range 4 {
		wantList(t, "Free", e.Free())
		wantAdvance(t, e, true)
	}
	retire(t, e, 0, 1)
	for range 2 {
		wantList(t, "Free", e.Free())
		wantList(t, "Waiting", e.Waiting(), 0, 1)
		wantAdvance(t, e, true)
	}
	wantList(t, "Free", e.Free(), 0, 1)
	wantList(t, "Free", e.Free())
}

// TestFreeAsksForEpochsAlone: one that was pinned later can't see what waits long enough.
func TestFreeAsksForEpochsAlone(t *testing.T) {
	e := made(t, 2)
	retire(t, e, 7)
	onward(t, e, 2)
	wantErr(t, "Pin", e.Pin(0), api.OK)
	wantErr(t, "Pin", e.Pin(1), api.OK)
	retire(t, e, 8)
	wantList(t, "Free", e.Free(), 7)
	wantAdvance(t, e, true)
	wantAdvance(t, e, false)
	wantList(t, "Free", e.Free())
	wantList(t, "Waiting", e.Waiting(), 8)
}
