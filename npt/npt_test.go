package npt

import (
	"slices"
	"testing"

	"matryoshka/api"
	"matryoshka/desc"
	"matryoshka/mem"
	"matryoshka/pool"
)

// The chapter's example, and the ones of the whole.

func TestExample(t *testing.T) {
	g := begin(t, 8, 128).open(3)
	g.wantMap(0, 5, 3, api.OK)
	g.wantTables(0, 1, 2, 3)
	g.wantUnmap(0, 5, api.OK)
	g.wantTables(0)
	g.wantRetired(3, 1, 2, 3)
}

func TestLargePageThatGetsOtherRights(t *testing.T) {
	g := begin(t, 8, 128).open(3)
	g.wantLarge(0x120, 32, 3, api.OK)
	g.wantTables(0, 1, 2)
	g.wantProtect(0x125, 1, api.OK)
	g.wantTables(0, 1, 2, 3)
	for i := range 16 {
		rights := 3
		if i == 5 {
			rights = 1
		}
		g.wantQuery(0x120+i, 32+i, rights, api.OK)
	}
}

// P13.1: New, Root, All.

func TestNewLaysTheRootAlone(t *testing.T) {
	for _, frames := range []int{1, 2, 17, 4095, 4096} {
		for _, more := range []int{0, 1, 15, 16, 1000} {
			if 16*frames+more > 65536 {
				continue
			}
			for _, owner := range []int{1, 3, 16} {
				g := begin(t, frames, 16*frames+more).open(owner)
				if f := g.x.Root(); f != 0 {
					t.Fatalf("Root = %d", f)
				}
				if d, _ := g.p.Of(0); d != (desc.Desc{Kind: desc.Table, Owner: owner}) {
					t.Fatal(d)
				}
				if l := g.m.Words(0, 16); slices.Max(l) != 0 {
					t.Fatal(l)
				}
				g.wantTables(0)
			}
		}
	}
}

// TestNewTakesTheLeastFreeFrame: not one that is cached, or retired.
func TestNewTakesTheLeastFreeFrame(t *testing.T) {
	w := begin(t, 9, 200)
	w.hold(0, 4)
	w.turn(1, desc.Cached, 0)
	w.hold(2)
	w.turn(2, desc.Retired, 0)
	if f := w.open(3).x.Root(); f != 3 {
		t.Error(f)
	}
	if f := w.open(4).x.Root(); f != 5 {
		t.Error(f)
	}
	w.hold(6, 7)
	if f := w.open(3).x.Root(); f != 8 {
		t.Error(f)
	}
}

// wantNoNew: nothing was taken or laid by a New that had an error.
func (w *world) wantNoNew(m *mem.Mem, p *pool.Pool, owner int, e api.Errno) {
	w.Helper()
	x, got := New(m, p, owner)
	if x != nil {
		w.Fatalf("New of %d = %v", owner, x)
	}
	w.want(w.did("New", got, e), e)
}

func TestNewWithoutWordsOrPool(t *testing.T) {
	w := begin(t, 4, 64)
	for _, owner := range append(noOwners(), 1, 16) {
		for _, m := range []*mem.Mem{nil, {}} {
			for _, p := range []*pool.Pool{w.p, nil, {}} {
				w.wantNoNew(m, p, owner, api.ErrArg)
			}
		}
		for _, p := range []*pool.Pool{nil, {}} {
			w.wantNoNew(w.m, p, owner, api.ErrArg)
		}
	}
}

func TestNewWithTooFewWords(t *testing.T) {
	for _, frames := range []int{1, 2, 5, 4096} {
		for _, words := range []int{1, 15, 16, 16*frames - 16, 16*frames - 2, 16*frames - 1} {
			if words < 1 || words >= 16*frames {
				continue
			}
			w := begin(t, frames, words)
			w.wantNoNew(w.m, w.p, 1, api.ErrArg)
			w.wantNoNew(w.m, w.p, 0, api.ErrArg)
			w.leave(0)
			w.wantNoNew(w.m, w.p, 1, api.ErrArg)
		}
	}
}

func TestNewTellsWhatTakeTells(t *testing.T) {
	w := begin(t, 3, 48)
	for _, owner := range noOwners() {
		w.wantNoNew(w.m, w.p, owner, api.ErrArg)
	}
	w.leave(0)
	for _, owner := range append(noOwners(), 1, 16) {
		w.wantNoNew(w.m, w.p, owner, api.ErrFrame)
	}
}

// TestNewOfCopies: copies of words and pools are such as are given.
func TestNewOfCopies(t *testing.T) {
	w := begin(t, 3, 48)
	m, p := w.m.Copy(), w.p.Copy()
	x, e := New(m, p, 2)
	if e != api.OK || x.Root() != 0 || p.Count(desc.Table) != 1 {
		t.Fatal(x, e)
	}
	w.compare("New of copies")
}

// The line ahead of the promises: what is answered of none, and of what was dropped.

// wantAllRefuse: each call answers e, whatever it is handed.
func wantAllRefuse(t *testing.T, x *Tables, e api.Errno) {
	t.Helper()
	for _, page := range append(noPages(), 0, 1, 0x20, 0x25, 0x41, 65535) {
		for _, rights := range []int{0, 1, 3, 7, 8, -1, least, greatest} {
			for _, frame := range []int{0, 8, 16, 4095, 4096, -1, least, greatest} {
				if got := x.Map(page, frame, rights); got != e {
					t.Fatalf("Map(%d, %d, %d) = %d", page, frame, rights, got)
				}
				if got := x.Large(page, frame, rights); got != e {
					t.Fatalf("Large(%d, %d, %d) = %d", page, frame, rights, got)
				}
			}
			if got := x.Protect(page, rights); got != e {
				t.Fatalf("Protect(%d, %d) = %d", page, rights, got)
			}
		}
		if f, got := x.Unmap(page); f != 0 || got != e {
			t.Fatalf("Unmap(%d) = %d, %d", page, f, got)
		}
		if f, r, got := x.Query(page); f != 0 || r != 0 || got != e {
			t.Fatalf("Query(%d) = %d, %d, %d", page, f, r, got)
		}
	}
	for range 2 {
		if f := x.Root(); f != -1 {
			t.Fatalf("Root = %d", f)
		}
		if l := x.All(); len(l) != 0 {
			t.Fatalf("All = %v", l)
		}
		if l := x.Drop(); len(l) != 0 {
			t.Fatalf("Drop = %v", l)
		}
	}
}

func TestTablesThatNewDidNotGive(t *testing.T) {
	refused, _ := New(nil, nil, 1)
	for _, x := range []*Tables{nil, {}, refused} {
		wantAllRefuse(t, x, api.ErrNil)
		wantAllRefuse(t, x, api.ErrNil)
	}
}

func TestDroppedTables(t *testing.T) {
	g := begin(t, 12, 192).open(3)
	g.wantMap(0x41, 7, 3, api.OK)
	g.wantLarge(0x20, 32, 3, api.OK)
	g.close()
	wantAllRefuse(t, g.x, api.ErrState)
	g.did("calls of what was dropped", api.ErrState, api.ErrState)
}

// P13.5: Drop.

func TestDrop(t *testing.T) {
	w := begin(t, 20, 320)
	w.hold(0, 2, 3)
	g := w.open(3)
	g.wantMap(0xabcd, 77, 5, api.OK)
	g.wantLarge(0xab00, 16, 1, api.OK)
	g.wantMap(0xabde, 1, 1, api.OK)
	g.wantMap(0x1234, 1, 1, api.OK)
	g.wantUnmap(0xabde, 1, api.OK)
	g.wantTables(1, 4, 5, 6, 8, 9, 10)
	if l := g.close(); !slices.Equal(l, []int{1, 4, 5, 6, 8, 9, 10}) {
		t.Error(l)
	}
	w.wantRetired(3, 1, 4, 5, 6, 7, 8, 9, 10)
}

func TestDropOfTheRootAlone(t *testing.T) {
	g := begin(t, 1, 16).open(16)
	if l := g.close(); !slices.Equal(l, []int{0}) {
		t.Error(l)
	}
	g.wantRetired(16, 0)
}

// TestDropLeavesOthers: tables of the same pool and words, also of the same owner, go on as they were.
func TestDropLeavesOthers(t *testing.T) {
	w := begin(t, 20, 320)
	a, b, c := w.open(3), w.open(3), w.open(4)
	for i, g := range []*guest{a, b, c} {
		g.wantMap(0x20, i, 1+i, api.OK)
		g.wantLarge(0x30, 16*i, 1+i, api.OK)
	}
	frames := b.x.All()
	if l := b.close(); !slices.Equal(l, frames) {
		t.Error(l, frames)
	}
	w.wantRetired(3, frames...)
	for i, g := range []*guest{a, b, c} {
		if g == b {
			continue
		}
		g.wantQuery(0x20, i, 1+i, api.OK)
		g.wantQuery(0x3f, 16*i+15, 1+i, api.OK)
		g.wantUnmap(0x20, i, api.OK)
		g.wantMap(0xffff, 1, 1, api.OK)
	}
	w.giveRetired()
	b = w.open(3)
	b.wantMap(0x20, 9, 7, api.OK)
	a.close()
	c.close()
	b.wantQuery(0x20, 9, 7, api.OK)
}
