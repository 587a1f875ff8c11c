package epoch

import (
	"fmt"
	"maps"
	"slices"
	"testing"

	"matryoshka/api"
)

// P10.5: laws.

// retired is a frame that waits: since when, and by which pins it may still be seen.
type retired struct {
	f, since int
	seen     []int
}

// pinning is one pin, from Pin to Unpin: which one of all pins, and at which epoch.
type pinning struct{ which, at int }

// scene is epochs, beside a plain list that says how they should stand.
type scene struct {
	*testing.T
	epochs *Epochs
	cpus   int
	now    int
	ever   int // how many pins there were
	pins   map[int]pinning
	waits  []retired
	came   map[string]int // how often each call told each thing
}

func begin(t *testing.T, cpus int) *scene {
	t.Helper()
	return &scene{T: t, epochs: made(t, cpus), cpus: cpus, pins: map[int]pinning{}, came: map[string]int{}}
}

// branch goes another way from here on; what came is counted in one place.
func (s *scene) branch() *scene {
	b := *s
	b.epochs = s.epochs.Copy()
	b.pins = maps.Clone(s.pins)
	b.waits = slices.Clone(s.waits)
	return &b
}

// tells holds what a call told against what it should.
func (s *scene) tells(what string, got, want any) {
	s.Helper()
	told := fmt.Sprint(got)
	if told != fmt.Sprint(want) {
		s.Fatalf("%s: %s, want %v; it stands at %s", what, told, want, stand(s.epochs))
	}
	s.came[what+" "+told]++
}

func (s *scene) cpuFault(cpu int, state bool) api.Errno {
	_, is := s.pins[cpu]
	switch {
	case cpu < 0 || cpu >= s.cpus:
		return api.ErrRange
	case is != state:
		return api.ErrState
	}
	return api.OK
}

func (s *scene) pin(cpu int) bool {
	s.Helper()
	want := s.cpuFault(cpu, false)
	if want == api.OK {
		s.ever++
		s.pins[cpu] = pinning{which: s.ever, at: s.now}
	}
	s.tells("Pin", s.epochs.Pin(cpu), want)
	return want == api.OK
}

func (s *scene) unpin(cpu int) bool {
	s.Helper()
	want := s.cpuFault(cpu, true)
	if want == api.OK {
		delete(s.pins, cpu)
	}
	s.tells("Unpin", s.epochs.Unpin(cpu), want)
	return want == api.OK
}

func (s *scene) retire(f int) bool {
	s.Helper()
	want := api.OK
	switch {
	case f < 0:
		want = api.ErrArg
	case slices.ContainsFunc(s.waits, func(r retired) bool { return r.f == f }):
		want = api.ErrTwice
	default:
		s.waits = append(slices.Clip(s.waits), retired{f: f, since: s.now, seen: s.pinned()})
	}
	s.tells("Retire", s.epochs.Retire(f), want)
	return want == api.OK
}

// pinned is which ones of all pins there are just now.
func (s *scene) pinned() []int {
	var l []int
	for _, p := range s.pins {
		l = append(l, p.which)
	}
	return l
}

func (s *scene) advance() bool {
	s.Helper()
	want := true
	for _, p := range s.pins {
		want = want && p.at == s.now
	}
	if want {
		s.now++
	}
	s.tells("Advance", s.epochs.Advance(), want)
	return want
}

// free holds each frame that is freed against the law: no pin of then is there still.
func (s *scene) free() bool {
	s.Helper()
	var want []int
	var stay []retired
	pinned := s.pinned()
	for _, r := range s.waits {
		if s.now-r.since < 2 {
			stay = append(stay, r)
			continue
		}
		want = append(want, r.f)
		if slices.ContainsFunc(r.seen, func(which int) bool { return slices.Contains(pinned, which) }) {
			s.Fatalf("%d is freed, and may still be seen by one of %v", r.f, r.seen)
		}
	}
	slices.Sort(want)
	s.waits = stay
	got := s.epochs.Free()
	wantList(s.T, "Free", got, want...)
	s.came[fmt.Sprint("Free ", len(got) > 0)]++
	return len(want) > 0
}

// wantStands holds all that can be told against the list.
func (s *scene) wantStands() {
	s.Helper()
	if s.epochs.Now() != s.now {
		s.Fatalf("Now = %d, want %d", s.epochs.Now(), s.now)
	}
	for cpu := -1; cpu <= s.cpus; cpu++ {
		p, is := s.pins[cpu]
		wantPinned(s.T, s.epochs, cpu, p.at, is)
	}
	var waits []int
	for _, r := range s.waits {
		waits = append(waits, r.f)
	}
	slices.Sort(waits)
	wantList(s.T, "Waiting", s.epochs.Waiting(), waits...)
}

// wantEnd: when nobody stays pinned all that waits is freed behind two Advances, and none before the first one that may not be.
func (s *scene) wantEnd() {
	s.Helper()
	b := s.branch()
	for cpu := range b.cpus {
		b.epochs.Unpin(cpu)
	}
	b.pins = nil
	waits := b.epochs.Waiting()
	if len(waits) != len(s.waits) || !b.advance() || !b.advance() {
		s.Fatalf("%v wait, and it stands at %s", waits, stand(b.epochs))
	}
	wantList(s.T, "Free behind two Advances", b.epochs.Free(), waits...)
	wantList(s.T, "Waiting behind them", b.epochs.Waiting())
}

// one is one of l, and now and then some number that is likely to fit nothing.
func one(next func(int) int, l ...int) int {
	if next(30) == 0 {
		odd := noCpus(3)
		return odd[next(len(odd))]
	}
	return l[next(len(l))]
}

func (s *scene) step(next func(int) int) {
	s.Helper()
	switch next(12) {
	case 0, 1:
		s.pin(one(next, next(s.cpus)))
	case 2, 3, 4:
		s.unpin(one(next, next(s.cpus)))
	case 5, 6, 7:
		s.retire(one(next, next(12), next(1000), next(greatest)))
	case 8, 9:
		s.advance()
	case 10:
		s.free()
	case 11:
		// A copy goes on as the one itself would.
		s.epochs = s.epochs.Copy()
	}
}

// numbers is numbers below n by lot, the same ones of the same seed.
func numbers(seed uint64) func(n int) int {
	return func(n int) int {
		seed = seed*6364136223846793005 + 1442695040888963407
		return int(seed >> 33 % uint64(n))
	}
}

// mayCome is what each call tells, one time or another.
func mayCome() []string {
	return []string{
		fmt.Sprint("Pin ", api.OK), fmt.Sprint("Pin ", api.ErrRange), fmt.Sprint("Pin ", api.ErrState),
		fmt.Sprint("Unpin ", api.OK), fmt.Sprint("Unpin ", api.ErrRange), fmt.Sprint("Unpin ", api.ErrState),
		fmt.Sprint("Retire ", api.OK), fmt.Sprint("Retire ", api.ErrArg), fmt.Sprint("Retire ", api.ErrTwice),
		"Advance true", "Advance false", "Free true", "Free false",
	}
}

func (s *scene) wantCame() {
	s.Helper()
	for _, what := range mayCome() {
		if s.came[what] == 0 {
			s.Errorf("%d CPUs: it never came that %s: %v", s.cpus, what, s.came)
		}
	}
}

func TestLawsInLongScripts(t *testing.T) {
	for cpus := 1; cpus <= 8; cpus++ {
		for seed := range 4 {
			s := begin(t, cpus)
			next := numbers(uint64(100*cpus + seed))
			for range 4000 {
				s.step(next)
				s.wantStands()
				s.wantEnd()
			}
			s.wantCame()
		}
	}
}

// calls is each call that may change something, with two CPUs and two frames.
func calls() []func(*scene) bool {
	return []func(*scene) bool{
		func(s *scene) bool { return s.pin(0) },
		func(s *scene) bool { return s.pin(1) },
		func(s *scene) bool { return s.unpin(0) },
		func(s *scene) bool { return s.unpin(1) },
		func(s *scene) bool { return s.retire(0) },
		func(s *scene) bool { return s.retire(5) },
		func(s *scene) bool { return s.advance() },
		func(s *scene) bool { return s.free() },
	}
}

// goAllWays does all scripts of so many calls; what changes nothing is told, and goes no further.
func (s *scene) goAllWays(calls []func(*scene) bool, left int) {
	s.Helper()
	s.wantStands()
	s.wantEnd()
	if left == 0 {
		return
	}
	for _, does := range calls {
		b := s.branch()
		if changed := does(b); changed {
			b.goAllWays(calls, left-1)
		} else {
			b.wantStands()
		}
	}
	s.wantStands()
}

func TestLawsInAllShortScripts(t *testing.T) {
	s := begin(t, 2)
	s.goAllWays(calls(), 7)
	for _, what := range []string{"Advance false", "Free true", fmt.Sprint("Retire ", api.ErrTwice)} {
		if s.came[what] == 0 {
			t.Errorf("it never came that %s: %v", what, s.came)
		}
	}
}

// TestNothingIsFreedWhileAPinIsThere: whenever the frame was retired while the CPU was pinned, and however often Advance is asked.
func TestNothingIsFreedWhileAPinIsThere(t *testing.T) {
	for cpus := 1; cpus <= 8; cpus++ {
		for cpu := range cpus {
			for gone := range 3 {
				e := made(t, cpus)
				onward(t, e, gone)
				wantErr(t, "Pin", e.Pin(cpu), api.OK)
				retire(t, e, 7)
				e.Advance()
				retire(t, e, 8)
				for range 5 {
					e.Advance()
					wantList(t, "Free", e.Free())
				}
				wantErr(t, "Unpin", e.Unpin(cpu), api.OK)
				wantAdvance(t, e, true)
				wantList(t, "Free", e.Free(), 7)
				wantAdvance(t, e, true)
				wantList(t, "Free", e.Free(), 8)
				wantList(t, "Free", e.Free())
			}
		}
	}
}

// The example of the chapter.

func TestExample(t *testing.T) {
	e := made(t, 1)
	wantErr(t, "Pin", e.Pin(0), api.OK)
	wantErr(t, "Retire", e.Retire(7), api.OK)
	wantAdvance(t, e, true)
	wantAdvance(t, e, false)
	wantList(t, "Free", e.Free())
	wantErr(t, "Unpin", e.Unpin(0), api.OK)
	wantAdvance(t, e, true)
	wantList(t, "Free", e.Free(), 7)
	wantList(t, "Waiting", e.Waiting())
}
