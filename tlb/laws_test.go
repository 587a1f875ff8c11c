package tlb

import (
	"cmp"
	"fmt"
	"maps"
	"slices"
	"testing"

	"matryoshka/api"
)

// P14.5: laws.

// place is a tag and a page.
type place struct{ tag, page int }

// found is what was filled in at a place, and as which one of all.
type found struct{ which, frame, rights int }

// scene is a Tlb, beside a plain map that says which lines there should be. The order is told by when each one was filled in.
type scene struct {
	*testing.T
	tlb     *Tlb
	size    int
	ever    int // how many lines were filled in
	there   map[place]found
	flushed map[place]bool // since when it was not filled again
	came    map[string]int // how often each call told each thing
}

func begin(t *testing.T, size int) *scene {
	t.Helper()
	return &scene{T: t, tlb: made(t, size), size: size, there: map[place]found{}, flushed: map[place]bool{}, came: map[string]int{}}
}

// branch goes another way from here on; what came is counted in one place.
func (s *scene) branch() *scene {
	b := *s
	b.tlb = s.tlb.Copy()
	b.there = maps.Clone(s.there)
	b.flushed = maps.Clone(s.flushed)
	return &b
}

// tells holds what a call told against what it should.
func (s *scene) tells(what string, got, want any) {
	s.Helper()
	told := fmt.Sprint(got)
	if told != fmt.Sprint(want) {
		s.Fatalf("%s: %s, want %v; the lines are %v", what, told, want, s.tlb.Lines())
	}
	s.came[what+" "+told]++
}

// places is where there are lines, those that were filled in first ahead.
func (s *scene) places() []place {
	return slices.SortedFunc(maps.Keys(s.there), func(a, b place) int { return cmp.Compare(s.there[a].which, s.there[b].which) })
}

func (s *scene) fill(l Line) {
	s.Helper()
	want := api.OK
	for _, of := range [][3]int{{l.Tag, 1, 16}, {l.Page, 0, 65535}, {l.Frame, 0, 4095}, {l.Rights, 1, 7}} {
		if of[0] < of[1] || of[0] > of[2] {
			want = api.ErrArg
		}
	}
	if want == api.OK {
		at := place{l.Tag, l.Page}
		_, again := s.there[at]
		switch first := s.places(); {
		case again:
			s.came["Fill again"]++
		case len(first) == s.size:
			delete(s.there, first[0])
			s.came["Fill of a full one"]++
		}
		s.ever++
		s.there[at] = found{s.ever, l.Frame, l.Rights}
		delete(s.flushed, at)
	}
	s.tells("Fill", s.tlb.Fill(l), want)
}

func (s *scene) look(tag, page, want int) {
	s.Helper()
	type answer struct {
		frame int
		fault api.Errno
	}
	frame, fault := s.tlb.Look(tag, page, want)
	is, ok := s.there[place{tag, page}]
	right := answer{is.frame, api.OK}
	switch {
	case !ok:
		right = answer{0, api.ErrNone}
	case want < 0 || want > 7 || want&is.rights != want:
		right = answer{0, api.ErrRight}
	}
	if (answer{frame, fault}) != right {
		s.Fatalf("Look(%d, %d, %d) = %d, %d, want %v; the lines are %v", tag, page, want, frame, fault, right, s.tlb.Lines())
	}
	if s.flushed[place{tag, page}] && fault != api.ErrNone {
		s.Fatalf("%d %d was flushed, and is found", tag, page)
	}
	s.came[fmt.Sprint("Look ", fault)]++
}

// gone is how many lines go, of those of which that holds.
func (s *scene) gone(goes func(at place, is found) bool) int {
	count := len(s.there)
	maps.DeleteFunc(s.there, goes)
	return count - len(s.there)
}

func (s *scene) flush(tag, page int) bool {
	s.Helper()
	want := s.gone(func(at place, _ found) bool { return at == place{tag, page} }) > 0
	s.flushed[place{tag, page}] = true
	s.tells("Flush", s.tlb.Flush(tag, page), want)
	return want
}

func (s *scene) forget(tag int) bool {
	s.Helper()
	want := s.gone(func(at place, _ found) bool { return at.tag == tag })
	s.took("Forget", s.tlb.Forget(tag), want)
	return want > 0
}

func (s *scene) drop(frame int) bool {
	s.Helper()
	want := s.gone(func(_ place, is found) bool { return is.frame == frame })
	s.took("Drop", s.tlb.Drop(frame), want)
	return want > 0
}

func (s *scene) took(what string, got, want int) {
	s.Helper()
	if got != want {
		s.Fatalf("%s = %d, want %d; the lines are %v", what, got, want, s.tlb.Lines())
	}
	s.came[fmt.Sprint(what, " ", min(got, 2))]++
}

// wantStands holds the lines against the map, and against the laws by themselves.
func (s *scene) wantStands() {
	s.Helper()
	var want []Line
	for _, at := range s.places() {
		is := s.there[at]
		want = append(want, Line{at.tag, at.page, is.frame, is.rights})
	}
	wantLines(s.T, s.tlb, want...)
	seen := map[place]bool{}
	for _, l := range s.tlb.Lines() {
		at := place{l.Tag, l.Page}
		if seen[at] || s.flushed[at] {
			s.Fatalf("%v: twice %t, flushed %t", l, seen[at], s.flushed[at])
		}
		seen[at] = true
	}
	if len(seen) > s.size {
		s.Fatalf("%d lines, and there may be %d", len(seen), s.size)
	}
}

// numbers is numbers below n by lot, the same ones of the same seed.
func numbers(seed uint64) func(n int) int {
	return func(n int) int {
		seed = seed*6364136223846793005 + 1442695040888963407
		return int(seed >> 33 % uint64(n))
	}
}

// lot is what is asked for: of few tags and pages, so that many are met again.
type lot struct {
	next  func(int) int
	pages int
}

// odd is a number, and now and then one that is likely to fit nothing.
func (l lot) odd(n int) int {
	if l.next(40) == 0 {
		odd := append(noNumber(), 0, 8, 17, 4096, 65536)
		return odd[l.next(len(odd))]
	}
	return n
}

func (l lot) tag() int    { return l.odd([]int{1, 2, 3, 16}[l.next(4)]) }
func (l lot) page() int   { return l.odd([]int{0, 65535 - l.pages}[l.next(2)] + l.next(l.pages)) }
func (l lot) frame() int  { return l.odd([]int{0, 4090}[l.next(2)] + l.next(6)) }
func (l lot) rights() int { return l.odd(1 + l.next(7)) }
func (l lot) want() int   { return l.odd(l.next(8)) }

func (s *scene) step(l lot) {
	s.Helper()
	switch l.next(40) {
	case 0:
		s.forget(l.tag())
	case 1, 2:
		s.drop(l.frame())
	case 3, 4, 5, 6, 7, 8:
		s.flush(l.tag(), l.page())
	case 9:
		// A copy goes on as the one itself would.
		s.tlb = s.tlb.Copy()
	case 10, 11, 12, 13, 14, 15, 16, 17, 18, 19:
		s.look(l.tag(), l.page(), l.want())
	default:
		s.fill(Line{l.tag(), l.page(), l.frame(), l.rights()})
	}
}

// mayCome is what each call tells, one time or another.
func mayCome(size int) []string {
	l := []string{
		fmt.Sprint("Fill ", api.OK), fmt.Sprint("Fill ", api.ErrArg), "Fill again", "Fill of a full one",
		fmt.Sprint("Look ", api.OK), fmt.Sprint("Look ", api.ErrNone), fmt.Sprint("Look ", api.ErrRight),
		"Flush true", "Flush false", "Forget 0", "Forget 1", "Drop 0", "Drop 1",
	}
	if size > 1 {
		l = append(l, "Forget 2", "Drop 2")
	}
	return l
}

func TestLawsInLongScripts(t *testing.T) {
	for _, size := range []int{1, 2, 3, 4, 5, 7, 8, 16, 31, 32, 33, 63, 64} {
		came := map[string]int{}
		for seed := range 4 {
			s := begin(t, size)
			s.came = came
			// The more may be there the more have to be asked for, to fill it now and then.
			l := lot{numbers(uint64(1000*size + seed)), 2 + size/2}
			for range 3000 {
				s.step(l)
				s.wantStands()
			}
		}
		for _, what := range mayCome(size) {
			if came[what] == 0 {
				t.Errorf("size %d: it never came that %s: %v", size, what, came)
			}
		}
	}
}

// goAllWays does all scripts of so many calls; what changes nothing goes no further.
func (s *scene) goAllWays(left int) {
	s.Helper()
	s.wantStands()
	for tag := 1; tag <= 2; tag++ {
		for page := range 2 {
			s.look(tag, page, 1+page)
		}
	}
	if left == 0 {
		return
	}
	for _, does := range calls() {
		b := s.branch()
		if changed := does(b); changed {
			b.goAllWays(left - 1)
		} else {
			b.wantStands()
		}
	}
	s.wantStands()
}

// calls is each call that may change something, with two tags, pages and frames.
func calls() []func(*scene) bool {
	l := []func(*scene) bool{
		func(s *scene) bool { return s.forget(2) },
		func(s *scene) bool { return s.drop(1) },
		func(s *scene) bool { return s.flush(1, 0) },
		func(s *scene) bool { return s.flush(2, 1) },
	}
	for _, line := range []Line{{1, 0, 0, 1}, {1, 1, 1, 2}, {2, 0, 1, 3}, {2, 1, 0, 1}, {1, 0, 1, 2}} {
		l = append(l, func(s *scene) bool {
			s.fill(line)
			return true
		})
	}
	return l
}

func TestLawsInAllShortScripts(t *testing.T) {
	for size := 1; size <= 4; size++ {
		begin(t, size).goAllWays(5)
	}
}

// TestWhatWasFlushedIsNotFound till it is filled again, whatever else is filled, and however often it goes round.
func TestWhatWasFlushedIsNotFound(t *testing.T) {
	for _, size := range sizes() {
		l := row(size)
		x := with(t, size, l...)
		for at, one := range l {
			if !x.Flush(one.Tag, one.Page) {
				t.Fatalf("%v was not there", one)
			}
			for i := range l[:at] {
				fill(t, x, l[i])
			}
			for page := range size {
				fill(t, x, Line{16, page, one.Frame, 7})
			}
			wantLook(t, x, one.Tag, one.Page, 0, 0, api.ErrNone)
			fill(t, x, l...)
			wantLook(t, x, one.Tag, one.Page, 0, one.Frame, api.OK)
		}
	}
}
