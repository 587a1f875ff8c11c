package pool

import (
	"slices"
	"testing"

	"matryoshka/api"
	"matryoshka/desc"
)

// P9.4: Count, Owned.

func wantOwned(t *testing.T, p *Pool, owner int, want ...int) {
	t.Helper()
	if l := p.Owned(owner); !slices.Equal(l, want) {
		t.Errorf("Owned(%d) = %v, want %v", owner, l, want)
	}
}

func TestCount(t *testing.T) {
	p, _ := stood(t)
	for kind, want := range []int{desc.Free: 3, desc.Cached: 1, desc.Monitor: 2, desc.Table: 2, desc.Guest: 3, desc.Retired: 2} {
		if n := p.Count(kind); n != want {
			t.Errorf("Count(%d) = %d, want %d", kind, n, want)
		}
	}
	for _, kind := range noKinds() {
		if n := p.Count(kind); n != 0 {
			t.Errorf("Count(%d) = %d", kind, n)
		}
	}
}

func TestCountGoesWithWhatIsDone(t *testing.T) {
	p := made(t, 3)
	for _, c := range []struct {
		does                 func() api.Errno
		free, guest, retired int
	}{
		{func() api.Errno { return p.Turn(2, desc.Guest, 1) }, 2, 1, 0},
		{func() api.Errno { _, e := p.Take(desc.Guest, 1); return e }, 1, 2, 0},
		{func() api.Errno { return p.Ref(2, 1) }, 1, 2, 0},
		{func() api.Errno { return p.Ref(2, -1) }, 1, 2, 0},
		{func() api.Errno { return p.Turn(2, desc.Retired, 0) }, 1, 1, 1},
		{func() api.Errno { return p.Give(0) }, 2, 0, 1},
		{func() api.Errno { return p.Give(2) }, 3, 0, 0},
	} {
		wantErr(t, "what is done", c.does(), api.OK)
		if free, guest, retired := p.Count(desc.Free), p.Count(desc.Guest), p.Count(desc.Retired); free != c.free || guest != c.guest || retired != c.retired {
			t.Errorf("%d free, %d a guest's, %d retired, want %d, %d, %d", free, guest, retired, c.free, c.guest, c.retired)
		}
	}
}

// TestOwned: of nobody, too; what is retired is still the one's whose it was.
func TestOwned(t *testing.T) {
	p, _ := stood(t)
	for range 2 {
		wantOwned(t, p, 0, 1, 2, 3, 6, 8, 9, 12)
		wantOwned(t, p, 1, 10)
		wantOwned(t, p, 2)
		wantOwned(t, p, 3, 0, 5, 7)
		for owner := 4; owner <= 15; owner++ {
			wantOwned(t, p, owner)
		}
		wantOwned(t, p, 16, 4, 11)
		for _, owner := range []int{-1, -3, -16, 17, 19, 256, 259, 1 << 32, 1<<32 + 3, least, least + 3, greatest} {
			wantOwned(t, p, owner)
		}
	}
}

func TestOwnedOfEachOwner(t *testing.T) {
	p := made(t, 100)
	for f := range 100 {
		wantTake(t, p, desc.Guest, 1+f%16, f, api.OK)
	}
	for owner := 1; owner <= 16; owner++ {
		var want []int
		for f := owner - 1; f < 100; f += 16 {
			want = append(want, f)
		}
		wantOwned(t, p, owner, want...)
	}
	wantOwned(t, p, 0)
}

// TestOwnedIsNew: the room behind a list too.
func TestOwnedIsNew(t *testing.T) {
	p, want := stood(t)
	l := p.Owned(0)
	for i := range l[:cap(l)] {
		l[:cap(l)][i] = 99
	}
	wantOwned(t, p, 0, 1, 2, 3, 6, 8, 9, 12)
	wantTable(t, p, want)

	l = p.Owned(3)
	wantErr(t, "Give", p.Give(0), api.OK)
	wantTake(t, p, desc.Guest, 4, 0, api.OK)
	if !slices.Equal(l, []int{0, 5, 7}) {
		t.Errorf("the list from before is %v", l)
	}
	wantOwned(t, p, 3, 5, 7)
	wantOwned(t, p, 4, 0)
}
