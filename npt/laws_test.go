package npt

import (
	"maps"
	"slices"
	"testing"

	"matryoshka/api"
	"matryoshka/desc"
	"matryoshka/walk"
)

// P13.6: laws.

// numbers is numbers below n by lot, the same ones of the same seed.
func numbers(seed uint64) func(n int) int {
	return func(n int) int {
		seed = seed*6364136223846793005 + 1442695040888963407
		return int(seed >> 33 % uint64(n))
	}
}

// script does calls by lot with some tables of one world.
type script struct {
	*world
	next func(int) int
}

// page is one of few that share tables, or a far one; now and then none.
func (s *script) page() int {
	switch s.next(12) {
	case 0:
		return s.next(65536)
	case 1:
		return s.next(512)
	case 2:
		return 0x1000*s.next(16) + s.next(2)
	case 3:
		return noPages()[s.next(len(noPages()))]
	}
	near := []int{0, 1, 2, 15, 16, 17, 31, 32, 47, 0xf0, 0xff, 0x100, 0x1000, 0x1010, 0xfff0, 0xffff}
	return near[s.next(len(near))]
}

func (s *script) frame() int {
	if s.next(40) == 0 {
		return noFrames()[s.next(len(noFrames()))]
	}
	return s.next(4096)
}

func (s *script) rights() int {
	if s.next(40) == 0 {
		return noRights()[s.next(len(noRights()))]
	}
	return 1 + s.next(7)
}

// sixteens makes a number one of sixteens, mostly.
func (s *script) sixteens(n int) int {
	if s.next(10) == 0 {
		return n
	}
	return n &^ 15
}

func (s *script) step(g *guest) {
	s.Helper()
	switch s.next(11) {
	case 0, 1, 2:
		g.Map(s.page(), s.frame(), s.rights())
	case 3:
		g.Large(s.sixteens(s.page()), s.sixteens(s.frame()), s.rights())
	case 4, 5, 6:
		g.Unmap(s.page())
	case 7, 8:
		g.Protect(s.page(), s.rights())
	case 9:
		g.Query(s.page())
	case 10:
		if s.next(4) == 0 {
			s.giveRetired()
		}
	}
}

// wantMapped: each page is mapped as it was mapped last, and is found so by a walker; others are not.
func (s *script) wantMapped(g *guest) {
	s.Helper()
	pages := append(slices.Collect(maps.Keys(g.pages)), s.next(65536), s.next(64), 0, 65535)
	for _, page := range pages {
		want, is := g.pages[page]
		f, r, e := g.x.Query(page)
		found := walk.All(s.m, g.x.Root(), page, 0)
		if is != (e == api.OK) || !is && e != api.ErrNone || f != want.frame || r != want.rights {
			s.Fatalf("Query of %#x = %d, %d, %d, want %v", page, f, r, e, want)
		}
		if found.Frame != want.frame || found.Rights != want.rights || found.E != e {
			s.Fatalf("a walker to %#x finds %v, want %v", page, found, want)
		}
	}
	s.done, _ = s.m.Count() // walkers load
}

// wantTablesOfAll: the frames that are tables are just those that All tells.
func (s *script) wantTablesOfAll() {
	s.Helper()
	var told, are []int
	for _, g := range s.guests {
		told = append(told, g.x.All()...)
	}
	slices.Sort(told)
	for f := range s.descs {
		if d, _ := s.p.Of(f); d.Kind == desc.Table {
			are = append(are, f)
		}
	}
	if !slices.Equal(told, are) {
		s.Fatalf("%v are tables, All tells %v", are, told)
	}
}

// empty unmaps all pages, in an order by lot: behind the last one there is the root alone.
func (s *script) empty(g *guest) {
	s.Helper()
	pages := slices.Sorted(maps.Keys(g.pages))
	for len(pages) > 0 {
		i := s.next(len(pages))
		s.giveRetired()
		if _, e := g.Unmap(pages[i]); e == api.OK {
			pages = slices.Delete(pages, i, i+1)
		}
	}
	if l := g.x.All(); !slices.Equal(l, []int{g.x.Root()}) {
		s.Fatalf("behind the last Unmap there is %v", l)
	}
	if l := s.m.Words(16*g.x.Root(), 16); slices.Max(l) != 0 {
		s.Fatalf("the root is %v", l)
	}
}

func (s *script) run(steps int) {
	s.Helper()
	for range steps {
		g := s.guests[s.next(len(s.guests))]
		s.step(g)
		s.wantTablesOfAll()
		if s.next(8) == 0 {
			s.wantMapped(g)
		}
	}
	for _, g := range s.guests {
		s.wantMapped(g)
	}
}

// TestCallsByLot: of one guest, and of two of one pool and one memory, that may have the same owner: what is done in one changes nothing in the other.
func TestCallsByLot(t *testing.T) {
	came := map[string]map[api.Errno]int{}
	for seed, frames := range []int{4, 5, 6, 7, 8, 10, 13, 20, 40} {
		for guests := 1; guests <= 2; guests++ {
			s := &script{world: begin(t, frames, 16*frames+seed), next: numbers(uint64(10*seed + guests))}
			s.came = came
			first := s.open(3)
			if guests == 2 {
				s.open(3 + seed%2)
			}
			s.run(1500)
			if guests == 2 {
				s.guests[1].close()
			}
			// A large page can't be unmapped without a frame to split it.
			if s.giveRetired(); len(s.free()) > 0 {
				s.empty(first)
			}
		}
	}
	wantCame(t, came, "Map", api.OK, api.ErrRange, api.ErrRight, api.ErrTwice, api.ErrFrame)
	wantCame(t, came, "Large", api.OK, api.ErrRange, api.ErrRight, api.ErrAlign, api.ErrTwice, api.ErrFrame)
	wantCame(t, came, "Unmap", api.OK, api.ErrRange, api.ErrNone, api.ErrFrame)
	wantCame(t, came, "Protect", api.OK, api.ErrRange, api.ErrRight, api.ErrNone, api.ErrFrame)
	wantCame(t, came, "Query", api.OK, api.ErrRange, api.ErrNone)
}

// wantCame: calls by lot came to each of these, and to nothing else.
func wantCame(t *testing.T, came map[string]map[api.Errno]int, what string, errors ...api.Errno) {
	t.Helper()
	for _, e := range errors {
		if came[what][e] < 10 {
			t.Errorf("%s: the error %d came %d times", what, e, came[what][e])
		}
	}
	if len(came[what]) != len(errors) {
		t.Errorf("%s: %v", what, came[what])
	}
}

// TestTheWholePool: as many tables as a pool may have, each one of them taken and retired.
func TestTheWholePool(t *testing.T) {
	w := begin(t, 4096, 65536)
	x, e := New(w.m, w.p, 1)
	if e != api.OK {
		t.Fatal(e)
	}
	// Each of these pages wants a table of its own, and those that lead there.
	n := 0
	for ; x.Map(16*n, n, 1) == api.OK; n++ {
	}
	if e := x.Map(16*n, 0, 1); e != api.ErrFrame || w.p.Count(desc.Free) != 0 || len(x.All()) != 4096 {
		t.Fatalf("%d pages, the error %d", n, e)
	}
	for i := range n {
		if f, e := x.Unmap(16 * i); f != i || e != api.OK {
			t.Fatal(i, f, e)
		}
	}
	if l := x.All(); !slices.Equal(l, []int{0}) || w.p.Count(desc.Retired) != 4095 {
		t.Error(l)
	}
}

// TestSameOnes: the same calls tell the same, whichever tables were there before.
func TestSameOnes(t *testing.T) {
	run := func() *script {
		s := &script{world: begin(t, 13, 208), next: numbers(99)}
		s.open(1)
		s.open(2)
		s.run(300)
		return s
	}
	a, b := run(), run()
	for i, g := range a.guests {
		if !slices.Equal(g.x.All(), b.guests[i].x.All()) {
			t.Error(g.x.All(), b.guests[i].x.All())
		}
	}
	if !slices.Equal(a.words, b.words) {
		t.Error("other words")
	}
}

// TestCallsEndWhateverOthersLay: nothing is promised of what they tell then, but that they end.
func TestCallsEndWhateverOthersLay(t *testing.T) {
	next := numbers(5)
	for range 200 {
		w := begin(t, 8, 128)
		g := w.open(3)
		x := g.x
		for range 60 {
			word := uint64(next(10))*4096 + uint64(next(2)*(2*next(16)))
			w.m.Store(next(128), word+uint64(next(4)))
			page := next(2) * next(65536)
			x.Map(page, next(4096), 1+next(7))
			x.Large(16*next(2), 16*next(256), 1+next(7))
			x.Protect(page, 1+next(7))
			x.Query(page)
			x.Unmap(next(32))
			x.All()
			w.p.Give(next(8))
		}
		x.Drop()
	}
}
