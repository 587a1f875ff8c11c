package epoch

import (
	"fmt"
	"math"
	"slices"
	"testing"

	"matryoshka/api"
)

const (
	least    = math.MinInt
	greatest = math.MaxInt
)

func made(t *testing.T, cpus int) *Epochs {
	t.Helper()
	e, fault := New(cpus)
	if fault != api.OK || e == nil {
		t.Fatalf("New(%d) = %v, %d", cpus, e, fault)
	}
	return e
}

func wantErr(t *testing.T, what string, got, want api.Errno) {
	t.Helper()
	if got != want {
		t.Fatalf("%s: %d, want %d", what, got, want)
	}
}

func wantList(t *testing.T, what string, got []int, want ...int) {
	t.Helper()
	if !slices.Equal(got, want) {
		t.Fatalf("%s = %v, want %v", what, got, want)
	}
}

func wantPinned(t *testing.T, e *Epochs, cpu, at int, is bool) {
	t.Helper()
	if gotAt, got := e.Pinned(cpu); gotAt != at || got != is {
		t.Fatalf("Pinned(%d) = %d, %t, want %d, %t", cpu, gotAt, got, at, is)
	}
}

func wantAdvance(t *testing.T, e *Epochs, want bool) {
	t.Helper()
	now := e.Now()
	if want {
		now++
	}
	if got := e.Advance(); got != want || e.Now() != now {
		t.Fatalf("Advance = %t, and the epoch is %d, want %t and %d", got, e.Now(), want, now)
	}
}

// onward advances till the epoch is now.
func onward(t *testing.T, e *Epochs, now int) {
	t.Helper()
	for e.Now() < now {
		wantAdvance(t, e, true)
	}
}

// retire retires frames, all of them in this epoch.
func retire(t *testing.T, e *Epochs, l ...int) {
	t.Helper()
	for _, f := range l {
		wantErr(t, fmt.Sprint("Retire of ", f), e.Retire(f), api.OK)
	}
}

// stand is all that can be told of epochs: also since when each frame waits, by what is free at once, and what one and two Advances free, when nobody stays pinned.
func stand(e *Epochs) string {
	var pins []string
	for cpu := range api.MaxCpus {
		if at, is := e.Pinned(cpu); is {
			pins = append(pins, fmt.Sprintf("%d at %d", cpu, at))
		}
	}
	var frees [3][]int
	c := e.Copy()
	for cpu := range api.MaxCpus {
		c.Unpin(cpu)
	}
	for n := range frees {
		frees[n] = c.Free()
		c.Advance()
	}
	return fmt.Sprintf("epoch %d, pinned %v, waiting %v, free in turn %v", e.Now(), pins, e.Waiting(), frees)
}

func wantStand(t *testing.T, e *Epochs, want string) {
	t.Helper()
	if got := stand(e); got != want {
		t.Fatalf("it stands at %s, want %s", got, want)
	}
}

// stood is an epoch 5 of four CPUs, of which one is pinned at the epoch and one at that before it, with frames that wait since several epochs.
func stood(t *testing.T) *Epochs {
	t.Helper()
	e := made(t, 4)
	retire(t, e, 30, 10)
	onward(t, e, 3)
	retire(t, e, 20, 0)
	onward(t, e, 4)
	retire(t, e, greatest, 5)
	wantErr(t, "Pin", e.Pin(1), api.OK)
	onward(t, e, 5)
	retire(t, e, 15)
	wantErr(t, "Pin", e.Pin(2), api.OK)
	wantStand(t, e, stoodAt)
	return e
}

const stoodAt = "epoch 5, pinned [1 at 4 2 at 5], waiting [0 5 10 15 20 30 9223372036854775807], free in turn [[0 10 20 30] [5 9223372036854775807] [15]]"

func noCpus(cpus int) []int {
	return []int{-1, cpus, cpus + 1, 8, 9, -cpus, -8, 64, 256, 1 << 32, 1<<32 + cpus - 1, -1 << 32, least, least + 1, greatest - 1, greatest}
}

// Of nil, and of one that New did not give.

func TestNoEpochs(t *testing.T) {
	for _, e := range []*Epochs{nil, {}, new(Epochs)} {
		for range 3 {
			wantNothing(t, e)
		}
	}
}

func wantNothing(t *testing.T, e *Epochs) {
	t.Helper()
	for _, n := range append(noCpus(1), 0, 1, 2, 7) {
		wantErr(t, "Pin", e.Pin(n), api.ErrNil)
		wantErr(t, "Unpin", e.Unpin(n), api.ErrNil)
		wantErr(t, "Retire", e.Retire(n), api.ErrNil)
		wantPinned(t, e, n, 0, false)
	}
	if e.Advance() || e.Now() != 0 || e.Copy() != nil {
		t.Error(e.Advance(), e.Now(), e.Copy())
	}
	wantList(t, "Free", e.Free())
	wantList(t, "Waiting", e.Waiting())
}

// P10.1: New.

func TestNew(t *testing.T) {
	for cpus := 1; cpus <= 8; cpus++ {
		e := made(t, cpus)
		wantStand(t, e, "epoch 0, pinned [], waiting [], free in turn [[] [] []]")
		for cpu := range cpus {
			wantPinned(t, e, cpu, 0, false)
			wantErr(t, "Unpin", e.Unpin(cpu), api.ErrState)
			wantErr(t, "Pin", e.Pin(cpu), api.OK)
		}
		for _, cpu := range noCpus(cpus) {
			if cpu < 0 || cpu >= cpus {
				wantErr(t, fmt.Sprint("Pin of ", cpu), e.Pin(cpu), api.ErrRange)
			}
		}
	}
}

func TestNewOfWrongNumbers(t *testing.T) {
	for _, n := range []int{-1, 0, 9, 10, 16, -8, 64, 256, 257, 1<<32 + 1, -1 << 32, 1 << 62, least, least + 1, greatest - 1, greatest} {
		if e, fault := New(n); e != nil || fault != api.ErrArg {
			t.Errorf("New(%d) = %v, %d", n, e, fault)
		}
	}
}

func TestNewOnesAreApart(t *testing.T) {
	a, b := made(t, 2), made(t, 2)
	wantErr(t, "Pin", a.Pin(1), api.OK)
	retire(t, a, 3)
	wantAdvance(t, a, true)
	wantStand(t, a, "epoch 1, pinned [1 at 0], waiting [3], free in turn [[] [3] []]")
	wantStand(t, b, "epoch 0, pinned [], waiting [], free in turn [[] [] []]")
}

// P10.3: Now.

func TestNow(t *testing.T) {
	e := made(t, 1)
	for n := range 100 {
		for range 3 {
			if e.Now() != n {
				t.Fatalf("Now = %d, want %d", e.Now(), n)
			}
		}
		wantAdvance(t, e, true)
	}
}

// TestNowIsForAdvanceAlone: no other call makes it more, whatever it tells.
func TestNowIsForAdvanceAlone(t *testing.T) {
	e := made(t, 2)
	onward(t, e, 3)
	e.Pin(0)
	e.Pin(9)
	e.Unpin(0)
	e.Unpin(0)
	e.Retire(1)
	e.Retire(1)
	e.Free()
	e.Waiting()
	e.Pinned(0)
	e.Copy().Advance()
	if e.Now() != 3 {
		t.Error(e.Now())
	}
}

// P10.4: Copy.

// changes is a call of each kind that changes what stood answers.
func changes() map[string]func(*Epochs) bool {
	return map[string]func(*Epochs) bool{
		"Pin":     func(e *Epochs) bool { return e.Pin(0) == api.OK },
		"Unpin":   func(e *Epochs) bool { return e.Unpin(2) == api.OK },
		"Retire":  func(e *Epochs) bool { return e.Retire(7) == api.OK },
		"Advance": func(e *Epochs) bool { return e.Unpin(1) == api.OK && e.Advance() },
		"Free":    func(e *Epochs) bool { return len(e.Free()) == 4 },
	}
}

func TestCopyStandsThere(t *testing.T) {
	e := stood(t)
	c := e.Copy()
	if c == e {
		t.Fatal("it is itself")
	}
	wantStand(t, c, stoodAt)
	wantStand(t, c.Copy().Copy(), stoodAt)
	wantStand(t, e, stoodAt)
	for cpus := 1; cpus <= 8; cpus++ {
		c := made(t, cpus).Copy()
		wantStand(t, c, stand(made(t, cpus)))
		wantErr(t, "Pin", c.Pin(cpus-1), api.OK)
		wantErr(t, "Pin", c.Pin(cpus), api.ErrRange)
	}
}

func TestCopyIsApart(t *testing.T) {
	for what, does := range changes() {
		e := stood(t)
		c := e.Copy()
		if !does(c) {
			t.Fatal(what, "of a copy")
		}
		wantStand(t, e, stoodAt)
		if stand(c) == stoodAt {
			t.Fatal(what, "of a copy changes nothing")
		}
		c = e.Copy()
		if !does(e) {
			t.Fatal(what, "of one that was copied")
		}
		wantStand(t, c, stoodAt)
	}
}

// TestCopyGoesOnAlike: what is done with both of them tells the same.
func TestCopyGoesOnAlike(t *testing.T) {
	for what, does := range changes() {
		e := stood(t)
		c := e.Copy()
		if does(e) != does(c) {
			t.Fatal(what)
		}
		wantStand(t, c, stand(e))
		wantErr(t, "Pin", c.Pin(1), e.Pin(1))
		wantErr(t, "Retire", c.Retire(15), e.Retire(15))
		wantAdvance(t, c, e.Advance())
		wantList(t, "Free", c.Free(), e.Free()...)
	}
}
