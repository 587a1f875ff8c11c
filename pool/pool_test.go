package pool

import (
	"math"
	"slices"
	"testing"

	"matryoshka/api"
	"matryoshka/desc"
)

const (
	least    = math.MinInt
	greatest = math.MaxInt
)

func made(t *testing.T, frames int) *Pool {
	t.Helper()
	p, e := New(frames)
	if e != api.OK || p == nil {
		t.Fatalf("New(%d) = %v, %d", frames, p, e)
	}
	return p
}

// table is what Of tells of all frames of a pool.
func table(t *testing.T, p *Pool) []desc.Desc {
	t.Helper()
	l := make([]desc.Desc, p.Len())
	for f := range l {
		d, ok := p.Of(f)
		if !ok {
			t.Fatalf("there is no frame %d of %d", f, p.Len())
		}
		l[f] = d
	}
	return l
}

func wantTable(t *testing.T, p *Pool, want []desc.Desc) {
	t.Helper()
	if l := table(t, p); !slices.Equal(l, want) {
		t.Fatalf("the frames are %v, want %v", l, want)
	}
}

func wantErr(t *testing.T, what string, got, want api.Errno) {
	t.Helper()
	if got != want {
		t.Fatalf("%s: %d, want %d", what, got, want)
	}
}

func kinds() []int {
	return []int{desc.Free, desc.Cached, desc.Monitor, desc.Table, desc.Guest, desc.Retired}
}

// noKinds has numbers that are a kind modulo some power of two, too.
func noKinds() []int {
	return []int{-1, -4, 6, 7, 16, 64, 68, 1 << 8, 1<<32 + desc.Guest, least, least + desc.Guest, greatest}
}

func owners() []int {
	return []int{-1, 0, 1, 2, 3, 15, 16, 17, 256, 257, -16, 1 << 32, 1<<32 + 1, least, least + 1, greatest}
}

func bys() []int {
	return []int{0, 1, -1, 2, -2, 3, -3, 65533, 65534, 65535, 65536, -65535, -65536, 1 << 32, -1 << 32, least, least + 1, greatest, greatest - 1}
}

// outside is numbers that are none of n frames.
func outside(n int) []int {
	return []int{-1, n, n + 1, -n, -n - 1, least, least + 1, greatest, greatest - 1, 4096, 1 << 32, 1<<32 + n - 1, -1 << 32, 1 << 62}
}

// stood is a pool with frames of all kinds, with refs and without, that are mixed, and free ones between them.
func stood(t *testing.T) (*Pool, []desc.Desc) {
	t.Helper()
	want := []desc.Desc{
		{Kind: desc.Guest, Owner: 3},
		{Kind: desc.Cached},
		{},
		{Kind: desc.Monitor},
		{Kind: desc.Table, Owner: 16},
		{Kind: desc.Retired, Owner: 3},
		{Kind: desc.Retired},
		{Kind: desc.Guest, Owner: 3, Refs: 2},
		{Kind: desc.Monitor, Refs: 65535},
		{},
		{Kind: desc.Table, Owner: 1, Refs: 1},
		{Kind: desc.Guest, Owner: 16},
		{},
	}
	p := made(t, len(want))
	for f, d := range want {
		if d.Kind == desc.Retired {
			bear(t, p, f, before(d))
		}
		bear(t, p, f, d)
	}
	wantTable(t, p, want)
	return p, want
}

// before is what a frame may be that is retired next, with this owner.
func before(d desc.Desc) desc.Desc {
	if d.Owner == 0 {
		return desc.Desc{Kind: desc.Monitor}
	}
	return desc.Desc{Kind: desc.Guest, Owner: d.Owner}
}

// bear makes a frame what is wanted.
func bear(t *testing.T, p *Pool, f int, d desc.Desc) {
	t.Helper()
	if d.Kind != desc.Free {
		wantErr(t, "Turn", p.Turn(f, d.Kind, d.Owner), api.OK)
	}
	if d.Refs != 0 {
		wantErr(t, "Ref", p.Ref(f, d.Refs), api.OK)
	}
}

// Of nil, and of one that New did not give.

func TestNoPool(t *testing.T) {
	for _, p := range []*Pool{nil, {}, new(Pool)} {
		for range 2 {
			wantNothing(t, p)
		}
	}
}

func wantNothing(t *testing.T, p *Pool) {
	t.Helper()
	for _, n := range append(outside(0), 0, 1, 2, 3, 4, 5, 16) {
		if f, e := p.Take(desc.Guest, n); f != 0 || e != api.ErrNil {
			t.Errorf("Take(Guest, %d) = %d, %d", n, f, e)
		}
		if f, e := p.Take(n, 0); f != 0 || e != api.ErrNil {
			t.Errorf("Take(%d, 0) = %d, %d", n, f, e)
		}
		wantErr(t, "Give", p.Give(n), api.ErrNil)
		wantErr(t, "Turn", p.Turn(n, desc.Guest, 1), api.ErrNil)
		wantErr(t, "Turn", p.Turn(0, n, n), api.ErrNil)
		wantErr(t, "Ref", p.Ref(n, 1), api.ErrNil)
		wantErr(t, "Ref", p.Ref(0, n), api.ErrNil)
		if d, ok := p.Of(n); d != (desc.Desc{}) || ok {
			t.Errorf("Of(%d) = %v, %t", n, d, ok)
		}
		if k := p.Count(n); k != 0 {
			t.Errorf("Count(%d) = %d", n, k)
		}
		if l := p.Owned(n); len(l) != 0 {
			t.Errorf("Owned(%d) = %v", n, l)
		}
	}
	if p.Len() != 0 || p.Copy() != nil {
		t.Error(p.Len(), p.Copy())
	}
}

// P9.1: New, Len.

func TestNewHasSoManyFreeFrames(t *testing.T) {
	for _, n := range []int{1, 2, 3, 16, 17, 4095, 4096} {
		p := made(t, n)
		if p.Len() != n || p.Count(desc.Free) != n || len(p.Owned(0)) != n {
			t.Errorf("New(%d): %d frames, %d free, %d nobody's", n, p.Len(), p.Count(desc.Free), len(p.Owned(0)))
		}
		wantTable(t, p, make([]desc.Desc, n))
		for _, f := range outside(n) {
			if d, ok := p.Of(f); d != (desc.Desc{}) || ok {
				t.Errorf("Of(%d) of %d frames = %v, %t", f, n, d, ok)
			}
		}
	}
}

func TestNewOfWrongNumbers(t *testing.T) {
	for _, n := range []int{0, -1, -2, -4096, 4097, 4098, 8192, 65536, math.MinInt32, math.MaxInt32, 1<<32 + 1, 1 << 62, least, least + 1, greatest - 1, greatest} {
		if p, e := New(n); p != nil || e != api.ErrArg {
			t.Errorf("New(%d) = %v, %d", n, p, e)
		}
	}
}

func TestNewOnesAreApart(t *testing.T) {
	a, b := made(t, 2), made(t, 2)
	a.Take(desc.Guest, 1)
	wantTable(t, a, []desc.Desc{{Kind: desc.Guest, Owner: 1}, {}})
	wantTable(t, b, make([]desc.Desc, 2))
}

func TestLenStays(t *testing.T) {
	p, want := stood(t)
	for range len(want) {
		p.Take(desc.Guest, 1)
	}
	p.Give(0)
	p.Turn(99, desc.Guest, 1)
	p.Copy()
	if p.Len() != len(want) {
		t.Error(p.Len())
	}
}

// P9.3: Of.

func TestOf(t *testing.T) {
	p, want := stood(t)
	for range 2 {
		for f, w := range want {
			if d, ok := p.Of(f); d != w || !ok {
				t.Errorf("Of(%d) = %v, %t", f, d, ok)
			}
		}
		for _, f := range outside(len(want)) {
			if d, ok := p.Of(f); d != (desc.Desc{}) || ok {
				t.Errorf("Of(%d) = %v, %t", f, d, ok)
			}
		}
	}
}

// P9.4: Copy.

// changes is each way by which a pool that stood changes.
func changes() map[string]func(*Pool) api.Errno {
	return map[string]func(*Pool) api.Errno{
		"Take": func(p *Pool) api.Errno { _, e := p.Take(desc.Guest, 5); return e },
		"Give": func(p *Pool) api.Errno { return p.Give(0) },
		"Turn": func(p *Pool) api.Errno { return p.Turn(4, desc.Retired, 0) },
		"Ref":  func(p *Pool) api.Errno { return p.Ref(7, 1) },
	}
}

func TestCopyStandsThereAndIsApart(t *testing.T) {
	for what, change := range changes() {
		for _, first := range []bool{true, false} {
			p, want := stood(t)
			c := p.Copy()
			wantTable(t, c, want)
			changed, other := p, c
			if !first {
				changed, other = c, p
			}
			wantErr(t, what, change(changed), api.OK)
			wantTable(t, other, want)
			behind := table(t, changed)
			if slices.Equal(behind, want) {
				t.Fatalf("%s changes nothing", what)
			}
			wantErr(t, what, change(other), api.OK)
			wantTable(t, other, behind)
			wantTable(t, changed, behind)
		}
	}
}

func TestCopyOfCopies(t *testing.T) {
	p := made(t, 3)
	var copies []*Pool
	for range 3 {
		copies = append(copies, p.Copy())
		p = p.Copy()
		p.Take(desc.Table, 2)
	}
	copies = append(copies, p)
	for n, c := range copies {
		if c.Len() != 3 || c.Count(desc.Table) != n || c.Count(desc.Free) != 3-n {
			t.Errorf("copy %d: %v", n, table(t, c))
		}
	}
}

// The chapter's example.

func TestExample(t *testing.T) {
	p := made(t, 2)
	if f, e := p.Take(desc.Guest, 1); f != 0 || e != api.OK {
		t.Error(f, e)
	}
	if f, e := p.Take(desc.Table, 1); f != 1 || e != api.OK {
		t.Error(f, e)
	}
	if f, e := p.Take(desc.Table, 1); f != 0 || e != api.ErrFrame {
		t.Error(f, e)
	}
	wantErr(t, "Give(0)", p.Give(0), api.OK)
	wantTable(t, p, []desc.Desc{{}, {Kind: desc.Table, Owner: 1}})
}
