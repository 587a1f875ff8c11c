package pool

import (
	"testing"

	"matryoshka/api"
	"matryoshka/desc"
)

// P9.5: laws.

// numbers is numbers below n by lot, the same ones of the same seed.
func numbers(seed uint64) func(n int) int {
	return func(n int) int {
		seed = seed*6364136223846793005 + 1442695040888963407
		return int(seed >> 33 % uint64(n))
	}
}

// script does calls by lot with a pool, beside a list that says how its frames should stand.
type script struct {
	*testing.T
	pool  *Pool
	want  []desc.Desc
	taken map[int]bool // what Take told, till it's given
	came  map[string]map[api.Errno]int
	next  func(int) int
}

func begin(t *testing.T, frames int, seed uint64) *script {
	t.Helper()
	return &script{
		T:     t,
		pool:  made(t, frames),
		want:  make([]desc.Desc, frames),
		taken: map[int]bool{},
		came:  map[string]map[api.Errno]int{"Take": {}, "Give": {}, "Turn": {}, "Ref": {}},
		next:  numbers(seed),
	}
}

// one is one of l, and now and then some number that is likely to fit nothing.
func (s *script) one(l ...int) int {
	if s.next(40) == 0 {
		odd := append(outside(len(s.want)), noKinds()...)
		return odd[s.next(len(odd))]
	}
	return l[s.next(len(l))]
}

func (s *script) frame() int { return s.one(s.next(len(s.want))) }

func (s *script) kind() int { return s.one(append(kinds(), desc.Guest, desc.Table, desc.Retired)...) }

func (s *script) owner() int { return s.one(0, 1, 2, 3, 15, 16, s.next(17)) }

// is tells whether there is a frame.
func (s *script) is(f int) bool { return f >= 0 && f < len(s.want) }

// lay says how a frame should stand behind a call that told e.
func (s *script) lay(what string, f int, got api.Errno, d desc.Desc, e api.Errno) {
	s.Helper()
	if got != e {
		s.Fatalf("%s of %d: %d, want %d", what, f, got, e)
	}
	s.came[what][e]++
	if e != api.OK {
		return
	}
	s.want[f] = d
	if d.Kind == desc.Free {
		delete(s.taken, f)
	}
}

func (s *script) take() {
	s.Helper()
	kind, owner := s.kind(), s.owner()
	free := -1
	for f := len(s.want) - 1; f >= 0; f-- {
		if s.want[f].Kind == desc.Free {
			free = f
		}
	}
	d, e := desc.Next(desc.Desc{}, kind, owner)
	if free < 0 {
		e = api.ErrFrame
	}
	if e != api.OK {
		free = 0
	}
	f, got := s.pool.Take(kind, owner)
	if f != free || got == api.OK && s.taken[f] {
		s.Fatalf("Take(%d, %d) = %d, %d, want %d; taken are %v", kind, owner, f, got, free, s.taken)
	}
	s.lay("Take", f, got, d, e)
	if e == api.OK {
		s.taken[f] = true
	}
}

func (s *script) turn() {
	s.Helper()
	f, kind, owner := s.frame(), s.kind(), s.owner()
	d, e := desc.Desc{}, api.ErrRange
	if s.is(f) {
		d, e = desc.Next(s.want[f], kind, owner)
	}
	s.lay("Turn", f, s.pool.Turn(f, kind, owner), d, e)
}

func (s *script) give() {
	s.Helper()
	f := s.frame()
	d, e := desc.Desc{}, api.ErrRange
	if s.is(f) {
		d, e = desc.Next(s.want[f], desc.Free, 0)
	}
	s.lay("Give", f, s.pool.Give(f), d, e)
}

func (s *script) ref() {
	s.Helper()
	f := s.frame()
	by := s.one(0, 1, 1, 2, -1, -1, -2, 65535)
	d, e := desc.Desc{}, api.ErrRange
	if s.is(f) {
		if s.next(4) == 0 {
			by = -s.want[f].Refs
		}
		d, e = desc.Ref(s.want[f], by)
	}
	s.lay("Ref", f, s.pool.Ref(f, by), d, e)
}

// wantLaws holds what the pool tells against the list, and against the laws.
func (s *script) wantLaws() {
	s.Helper()
	wantTable(s.T, s.pool, s.want)
	all := 0
	for _, kind := range kinds() {
		all += s.pool.Count(kind)
	}
	if all != len(s.want) {
		s.Fatalf("%d frames of all kinds, of %d", all, len(s.want))
	}
	lists := make([]int, len(s.want))
	for owner := range 17 {
		last := -1
		for _, f := range s.pool.Owned(owner) {
			if f <= last || !s.is(f) || s.want[f].Owner != owner {
				s.Fatalf("Owned(%d) = %v", owner, s.pool.Owned(owner))
			}
			last = f
			lists[f]++
		}
	}
	for f, n := range lists {
		if n != 1 {
			s.Fatalf("the frame %d is in %d lists", f, n)
		}
	}
}

func (s *script) step() {
	s.Helper()
	switch s.next(10) {
	case 0, 1, 2, 3:
		s.take()
	case 4, 5:
		s.turn()
	case 6, 7:
		s.give()
	case 8:
		s.ref()
	case 9:
		// A copy goes on as the pool itself would.
		s.pool = s.pool.Copy()
	}
}

// mayCome is what each call tells, one time or another.
func mayCome() map[string][]api.Errno {
	return map[string][]api.Errno{
		"Take": {api.OK, api.ErrFrame, api.ErrState, api.ErrArg},
		"Give": {api.OK, api.ErrRange, api.ErrBusy, api.ErrState},
		"Turn": {api.OK, api.ErrRange, api.ErrBusy, api.ErrState, api.ErrArg},
		"Ref":  {api.OK, api.ErrRange, api.ErrState},
	}
}

func TestLawsInLongScripts(t *testing.T) {
	for _, frames := range []int{1, 2, 3, 7, 16, 33} {
		for seed := range 4 {
			s := begin(t, frames, uint64(100*frames+seed))
			for range 3000 {
				s.step()
				s.wantLaws()
			}
			for what, l := range mayCome() {
				for _, e := range l {
					if s.came[what][e] == 0 {
						t.Errorf("%d frames, seed %d: %s never told %d: %v", frames, seed, what, e, s.came[what])
					}
				}
			}
		}
	}
}

// TestLawsOfAllThatCanBe: the laws are looked at now and then, since there are so many frames.
func TestLawsOfAllThatCanBe(t *testing.T) {
	s := begin(t, api.MaxFrames, 1)
	for n := range 4000 {
		s.step()
		if n%500 == 0 {
			s.wantLaws()
		}
	}
	s.wantLaws()
}

// TestWhatIsTakenIsNotTakenAgain: each one that takes has a frame of its own.
func TestWhatIsTakenIsNotTakenAgain(t *testing.T) {
	p := made(t, 50)
	whose := map[int]int{}
	next := numbers(7)
	for range 5000 {
		owner := 1 + next(16)
		f, e := p.Take(desc.Guest, owner)
		if e == api.OK {
			if had, ok := whose[f]; ok {
				t.Fatalf("%d is taken by %d, and was %d's", f, owner, had)
			}
			whose[f] = owner
		}
		if len(whose) == 50 || next(3) == 0 {
			f = next(50)
			_, ok := whose[f]
			want := api.ErrState
			if ok {
				want = api.OK
			}
			wantErr(t, "Give", p.Give(f), want)
			delete(whose, f)
		}
		for f, owner := range whose {
			if d, ok := p.Of(f); !ok || d != (desc.Desc{Kind: desc.Guest, Owner: owner}) {
				t.Fatalf("the frame %d of %d is %v, %t", f, owner, d, ok)
			}
		}
	}
}
