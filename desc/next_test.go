package desc

import (
	"slices"
	"testing"

	"matryoshka/api"
)

func wantNext(t *testing.T, d Desc, kind, owner int, want Desc, e api.Errno) {
	t.Helper()
	if n, got := Next(d, kind, owner); n != want || got != e {
		t.Errorf("Next(%v, %d, %d) = %v, %d, want %v, %d", d, kind, owner, n, got, want, e)
	}
}

func wantNoNext(t *testing.T, d Desc, kind, owner int, e api.Errno) {
	t.Helper()
	wantNext(t, d, kind, owner, Desc{}, e)
}

// plain is a right descriptor of a kind without refs.
func plain(kind int) Desc {
	d := Desc{Kind: kind}
	if kind == Table || kind == Guest {
		d.Owner = 4
	}
	return d
}

// targets is the kinds to which there is a way, as the chapter lists them.
func targets(kind int) []int {
	switch kind {
	case Free:
		return []int{Cached, Monitor, Table, Guest}
	case Cached:
		return []int{Free, Monitor, Table, Guest}
	case Monitor, Table:
		return []int{Retired, Free}
	case Guest:
		return []int{Retired, Free, Guest}
	case Retired:
		return []int{Free}
	}
	return nil
}

// fits is owners with which a descriptor of the kind is right behind Next: of Retired all, since they are not looked at.
func fits(kind int) []int {
	switch kind {
	case Table, Guest:
		return []int{1, 7, 16}
	case Retired:
		return owners()
	}
	return []int{0}
}

// P8.2: Next.

func TestNextJustTheWaysThatAre(t *testing.T) {
	for _, from := range kinds() {
		for _, to := range slices.Concat(kinds(), noKinds()) {
			for _, owner := range fits(to) {
				d := plain(from)
				if !slices.Contains(targets(from), to) {
					wantNoNext(t, d, to, owner, api.ErrState)
					continue
				}
				want := Desc{Kind: to, Owner: owner}
				if to == Retired {
					want.Owner = d.Owner
				}
				wantNext(t, d, to, owner, want, api.OK)
			}
		}
	}
}

func TestNextOfOwnersThatDoNotFit(t *testing.T) {
	for _, from := range kinds() {
		for _, to := range targets(from) {
			for _, owner := range owners() {
				has := owner >= 1 && owner <= 16
				ok := to == Retired || owner == 0
				if to == Table || to == Guest {
					ok = has
				}
				if !ok {
					wantNoNext(t, plain(from), to, owner, api.ErrArg)
				} else if _, e := Next(plain(from), to, owner); e != api.OK {
					t.Errorf("%d to %d of %d: %d", from, to, owner, e)
				}
			}
		}
	}
}

func TestNextIsRetiredWithTheOwnerThatItHad(t *testing.T) {
	for _, owner := range owners() {
		wantNext(t, Desc{Kind: Monitor}, Retired, owner, Desc{Kind: Retired}, api.OK)
		for had := 1; had <= 16; had++ {
			wantNext(t, Desc{Kind: Table, Owner: had}, Retired, owner, Desc{Kind: Retired, Owner: had}, api.OK)
			wantNext(t, Desc{Kind: Guest, Owner: had}, Retired, owner, Desc{Kind: Retired, Owner: had}, api.OK)
		}
	}
}

func TestNextFromGuestToGuest(t *testing.T) {
	for had := 1; had <= 16; had++ {
		for owner := 1; owner <= 16; owner++ {
			wantNext(t, Desc{Kind: Guest, Owner: had}, Guest, owner, Desc{Kind: Guest, Owner: owner}, api.OK)
		}
		wantNoNext(t, Desc{Kind: Guest, Owner: had}, Guest, 0, api.ErrArg)
		wantNoNext(t, Desc{Kind: Guest, Owner: had}, Guest, 17, api.ErrArg)
		wantNoNext(t, Desc{Kind: Table, Owner: had}, Table, had, api.ErrState)
	}
}

// TestNextOfWhatWasRetired: neither its epoch nor its owner is left when it's free.
func TestNextOfWhatWasRetired(t *testing.T) {
	for _, epoch := range []int{0, 1, 1<<32 - 1} {
		for owner := range 17 {
			d := Desc{Kind: Retired, Owner: owner, Epoch: epoch}
			wantNext(t, d, Free, 0, Desc{}, api.OK)
			wantNoNext(t, d, Free, 1, api.ErrArg)
			wantNoNext(t, d, Retired, owner, api.ErrState)
			wantNoNext(t, d, Guest, 1, api.ErrState)
		}
	}
}

func TestNextErrorsInTheirOrder(t *testing.T) {
	for _, c := range []struct {
		d           Desc
		kind, owner int
		e           api.Errno
	}{
		// Not right, and all else too: with refs, no way, an owner that does not fit.
		{Desc{Kind: Guest, Refs: 1}, Table, 17, api.ErrForm},
		{Desc{Kind: Guest, Owner: 17, Refs: 1}, 6, 0, api.ErrForm},
		{Desc{Kind: Guest, Owner: 17}, Retired, 0, api.ErrForm},
		{Desc{Kind: Free, Refs: 1}, Free, 1, api.ErrForm},
		{Desc{Kind: 6}, Free, 0, api.ErrForm},
		{Desc{Kind: -1}, -1, -1, api.ErrForm},
		{Desc{Kind: Retired, Refs: 1}, Free, 0, api.ErrForm},
		{Desc{Kind: Monitor, Refs: 65536}, Retired, 0, api.ErrForm},
		{Desc{Kind: Monitor, Refs: -1}, Retired, 0, api.ErrForm},
		// Refs, and no way, and an owner that does not fit.
		{Desc{Kind: Guest, Owner: 1, Refs: 1}, Table, 17, api.ErrBusy},
		{Desc{Kind: Guest, Owner: 1, Refs: 1}, Guest, 17, api.ErrBusy},
		{Desc{Kind: Monitor, Refs: 65535}, 6, 0, api.ErrBusy},
		{Desc{Kind: Table, Owner: 16, Refs: 1}, -1, -1, api.ErrBusy},
		{Desc{Kind: Table, Owner: 16, Refs: 1}, Retired, 16, api.ErrBusy},
		// No way, and an owner that does not fit.
		{Desc{Kind: Guest, Owner: 1}, Table, 17, api.ErrState},
		{Desc{Kind: Guest, Owner: 1}, Monitor, 1, api.ErrState},
		{Desc{}, Free, 1, api.ErrState},
		{Desc{}, Retired, 1, api.ErrState},
		{Desc{}, 6, 17, api.ErrState},
		{Desc{}, -1, -1, api.ErrState},
		// The owner alone.
		{Desc{}, Guest, 0, api.ErrArg},
		{Desc{}, Guest, 17, api.ErrArg},
		{Desc{}, Table, -1, api.ErrArg},
		{Desc{}, Monitor, 1, api.ErrArg},
		{Desc{}, Cached, 1, api.ErrArg},
		{Desc{Kind: Guest, Owner: 1}, Free, 1, api.ErrArg},
	} {
		wantNoNext(t, c.d, c.kind, c.owner, c.e)
	}
}

func TestNextOfWhatIsNotRight(t *testing.T) {
	for _, d := range wrongDescs() {
		for _, kind := range []int{d.Kind, Free, Guest, Retired, -1, 6} {
			for _, owner := range []int{0, 1, d.Owner} {
				if n, e := Next(d, kind, owner); n != (Desc{}) || e != api.ErrForm {
					t.Fatalf("Next(%v, %d, %d) = %v, %d", d, kind, owner, n, e)
				}
			}
		}
	}
}

// What Next tells is right, so that it can be packed and go on.
func TestNextIsRight(t *testing.T) {
	for _, d := range rightDescs() {
		for _, kind := range slices.Concat(kinds(), noKinds()) {
			for _, owner := range owners() {
				n, e := Next(d, kind, owner)
				if e == api.OK && (!isRight(n) || n.Kind != kind || n.Refs != 0 || n.Epoch != 0) || e != api.OK && n != (Desc{}) {
					t.Fatalf("Next(%v, %d, %d) = %v, %d", d, kind, owner, n, e)
				}
			}
		}
	}
}

// P8.5: with refs no kind changes.

func TestWithRefsNoKindChanges(t *testing.T) {
	for _, from := range []int{Monitor, Table, Guest} {
		for _, refs := range []int{1, 2, 255, 256, 65534, 65535} {
			d := plain(from)
			d.Refs = refs
			for _, to := range slices.Concat(kinds(), noKinds()) {
				for _, owner := range append(owners(), d.Owner) {
					wantNoNext(t, d, to, owner, api.ErrBusy)
				}
			}
		}
	}
}

func TestWhenAllRefsAreGoneTheKindChanges(t *testing.T) {
	d, e := Ref(Desc{Kind: Guest, Owner: 3}, 2)
	if e != api.OK {
		t.Fatal(e)
	}
	for range 2 {
		wantNoNext(t, d, Retired, 3, api.ErrBusy)
		if d, e = Ref(d, -1); e != api.OK {
			t.Fatal(e)
		}
	}
	wantNext(t, d, Retired, 0, Desc{Kind: Retired, Owner: 3}, api.OK)
}
