package desc

import (
	"testing"

	"matryoshka/api"
)

func wantRef(t *testing.T, d Desc, by int, want Desc, e api.Errno) {
	t.Helper()
	if r, got := Ref(d, by); r != want || got != e {
		t.Errorf("Ref(%v, %d) = %v, %d, want %v, %d", d, by, r, got, want, e)
	}
}

func bys() []int {
	return []int{0, 1, -1, 2, -2, 65534, 65535, 65536, -65534, -65535, -65536, 1 << 16, 1 << 32, -1 << 32, least, least + 1, least + 65535, greatest, greatest - 1, greatest - 65535}
}

// P8.3: Ref.

func TestRefAtTheBounds(t *testing.T) {
	for _, owner := range []int{1, 16} {
		for _, d := range []Desc{{Kind: Monitor}, {Kind: Table, Owner: owner}, {Kind: Guest, Owner: owner}} {
			for _, refs := range []int{0, 1, 2, 1000, 65534, 65535} {
				d.Refs = refs
				wantTo(t, d, 0, api.OK)
				wantTo(t, d, refs, api.OK)
				wantTo(t, d, 65535, api.OK)
				wantTo(t, d, refs/2, api.OK)
				wantTo(t, d, -1, api.ErrRange)
				wantTo(t, d, 65536, api.ErrRange)
				for _, by := range []int{least, least + 1, greatest, greatest - 1} {
					wantRef(t, d, by, Desc{}, api.ErrRange)
				}
			}
		}
	}
}

// wantTo: what comes of making the refs this many; nothing else of the descriptor changes.
func wantTo(t *testing.T, d Desc, refs int, e api.Errno) {
	t.Helper()
	var want Desc
	if e == api.OK {
		want = Desc{d.Kind, d.Owner, refs, d.Epoch}
	}
	wantRef(t, d, refs-d.Refs, want, e)
}

func TestRefOneByOne(t *testing.T) {
	d := Desc{Kind: Table, Owner: 9}
	for n := 1; n <= 65535; n++ {
		wantRef(t, d, 1, Desc{Table, 9, n, 0}, api.OK)
		d.Refs = n
	}
	wantRef(t, d, 1, Desc{}, api.ErrRange)
	for n := 65534; n >= 0; n-- {
		wantRef(t, d, -1, Desc{Table, 9, n, 0}, api.OK)
		d.Refs = n
	}
	wantRef(t, d, -1, Desc{}, api.ErrRange)
}

// TestRefOfKindsWithoutRefs: also where nothing would change.
func TestRefOfKindsWithoutRefs(t *testing.T) {
	for _, d := range []Desc{
		{}, {Kind: Cached}, {Kind: Retired}, {Kind: Retired, Owner: 16}, {Kind: Retired, Epoch: 1<<32 - 1}, {Kind: Retired, Owner: 1, Epoch: 1},
	} {
		for _, by := range bys() {
			wantRef(t, d, by, Desc{}, api.ErrState)
		}
	}
}

// TestRefOfWhatIsNotRight: also where the kind has no refs, or there would be too many, or just right many.
func TestRefOfWhatIsNotRight(t *testing.T) {
	for _, d := range wrongDescs() {
		for _, by := range append(bys(), -d.Refs) {
			if r, e := Ref(d, by); r != (Desc{}) || e != api.ErrForm {
				t.Fatalf("Ref(%v, %d) = %v, %d", d, by, r, e)
			}
		}
	}
}

// What Ref tells is right, and differs from what it was by the refs alone.
func TestRefIsRight(t *testing.T) {
	for _, d := range rightDescs() {
		for _, by := range bys() {
			r, e := Ref(d, by)
			if e != api.OK {
				if r != (Desc{}) {
					t.Fatalf("Ref(%v, %d) = %v, %d", d, by, r, e)
				}
				continue
			}
			if r != (Desc{d.Kind, d.Owner, d.Refs + by, d.Epoch}) || !isRight(r) {
				t.Fatalf("Ref(%v, %d) = %v", d, by, r)
			}
		}
	}
}
