package pool

import (
	"slices"
	"testing"

	"matryoshka/api"
	"matryoshka/desc"
)

// with is the descriptors with another one at f.
func with(l []desc.Desc, f int, d desc.Desc) []desc.Desc {
	l = slices.Clone(l)
	l[f] = d
	return l
}

func wantTake(t *testing.T, p *Pool, kind, owner, want int, e api.Errno) {
	t.Helper()
	if f, got := p.Take(kind, owner); f != want || got != e {
		t.Fatalf("Take(%d, %d) = %d, %d, want %d, %d", kind, owner, f, got, want, e)
	}
}

// P9.2: Turn.

func TestTurnWhereThereIsNoFrame(t *testing.T) {
	p, want := stood(t)
	for _, f := range outside(len(want)) {
		for _, kind := range append(kinds(), noKinds()...) {
			wantErr(t, "Turn", p.Turn(f, kind, 0), api.ErrRange)
			wantErr(t, "Turn", p.Turn(f, kind, 1), api.ErrRange)
			wantErr(t, "Turn", p.Turn(f, kind, -1), api.ErrRange)
		}
	}
	wantTable(t, p, want)
}

func TestTurnIsWhatNextTells(t *testing.T) {
	came := map[api.Errno]int{}
	for _, kind := range append(kinds(), noKinds()...) {
		for _, owner := range owners() {
			for f := range 13 {
				p, want := stood(t)
				d, e := desc.Next(want[f], kind, owner)
				if e == api.OK {
					want[f] = d
				}
				wantErr(t, "Turn", p.Turn(f, kind, owner), e)
				wantTable(t, p, want)
				came[e]++
			}
		}
	}
	for _, e := range []api.Errno{api.OK, api.ErrBusy, api.ErrState, api.ErrArg} {
		if came[e] == 0 {
			t.Errorf("the error %d did not come", e)
		}
	}
}

func TestTurnByHand(t *testing.T) {
	for _, c := range []struct {
		f, kind, owner int
		want           desc.Desc
	}{
		{2, desc.Cached, 0, desc.Desc{Kind: desc.Cached}},
		{2, desc.Monitor, 0, desc.Desc{Kind: desc.Monitor}},
		{9, desc.Table, 16, desc.Desc{Kind: desc.Table, Owner: 16}},
		{12, desc.Guest, 1, desc.Desc{Kind: desc.Guest, Owner: 1}},
		{1, desc.Guest, 2, desc.Desc{Kind: desc.Guest, Owner: 2}},
		{1, desc.Free, 0, desc.Desc{}},
		{0, desc.Guest, 4, desc.Desc{Kind: desc.Guest, Owner: 4}},
		{0, desc.Guest, 3, desc.Desc{Kind: desc.Guest, Owner: 3}},
		{0, desc.Retired, 9, desc.Desc{Kind: desc.Retired, Owner: 3}},
		{0, desc.Retired, -9, desc.Desc{Kind: desc.Retired, Owner: 3}},
		{3, desc.Retired, 9, desc.Desc{Kind: desc.Retired}},
		{4, desc.Free, 0, desc.Desc{}},
		{5, desc.Free, 0, desc.Desc{}},
	} {
		p, want := stood(t)
		wantErr(t, "Turn", p.Turn(c.f, c.kind, c.owner), api.OK)
		wantTable(t, p, with(want, c.f, c.want))
	}
}

func TestTurnErrorsByHand(t *testing.T) {
	p, want := stood(t)
	for _, c := range []struct {
		f, kind, owner int
		e              api.Errno
	}{
		{7, desc.Free, 0, api.ErrBusy},
		{7, desc.Retired, 3, api.ErrBusy},
		{7, desc.Table, 17, api.ErrBusy},
		{8, 6, 0, api.ErrBusy},
		{10, desc.Free, 0, api.ErrBusy},
		{0, desc.Table, 3, api.ErrState},
		{0, desc.Monitor, 17, api.ErrState},
		{0, -1, 3, api.ErrState},
		{1, desc.Retired, 0, api.ErrState},
		{1, desc.Cached, 0, api.ErrState},
		{2, desc.Free, 0, api.ErrState},
		{2, desc.Retired, 0, api.ErrState},
		{3, desc.Monitor, 0, api.ErrState},
		{5, desc.Guest, 3, api.ErrState},
		{5, desc.Retired, 3, api.ErrState},
		{0, desc.Guest, 0, api.ErrArg},
		{0, desc.Free, 3, api.ErrArg},
		{2, desc.Guest, 17, api.ErrArg},
		{2, desc.Table, -1, api.ErrArg},
		{2, desc.Monitor, 1, api.ErrArg},
		{5, desc.Free, 3, api.ErrArg},
	} {
		wantErr(t, "Turn", p.Turn(c.f, c.kind, c.owner), c.e)
		wantTable(t, p, want)
	}
}

// P9.2: Take.

func TestTakeIsTheLeastFreeOne(t *testing.T) {
	p, want := stood(t)
	for n, f := range []int{2, 9, 12} {
		wantTake(t, p, desc.Table, 5+n, f, api.OK)
		want[f] = desc.Desc{Kind: desc.Table, Owner: 5 + n}
		wantTable(t, p, want)
	}
	wantTake(t, p, desc.Table, 5, 0, api.ErrFrame)
	wantTable(t, p, want)
}

func TestTakeOfFramesThatWereGivenBack(t *testing.T) {
	p := made(t, 6)
	for f := range 6 {
		wantTake(t, p, desc.Guest, 1, f, api.OK)
	}
	for _, f := range []int{4, 2, 3} {
		wantErr(t, "Give", p.Give(f), api.OK)
	}
	wantTake(t, p, desc.Monitor, 0, 2, api.OK)
	wantErr(t, "Give", p.Give(0), api.OK)
	wantErr(t, "Turn", p.Turn(5, desc.Retired, 0), api.OK)
	wantTake(t, p, desc.Table, 2, 0, api.OK)
	wantTake(t, p, desc.Cached, 0, 3, api.OK)
	wantTake(t, p, desc.Guest, 16, 4, api.OK)
	wantTake(t, p, desc.Guest, 16, 0, api.ErrFrame)
	wantErr(t, "Turn", p.Turn(5, desc.Free, 0), api.OK)
	wantTake(t, p, desc.Guest, 7, 5, api.OK)
	wantTable(t, p, []desc.Desc{
		{Kind: desc.Table, Owner: 2},
		{Kind: desc.Guest, Owner: 1},
		{Kind: desc.Monitor},
		{Kind: desc.Cached},
		{Kind: desc.Guest, Owner: 16},
		{Kind: desc.Guest, Owner: 7},
	})
}

func TestTakeOfAllThatCanBe(t *testing.T) {
	p := made(t, api.MaxFrames)
	for f := range api.MaxFrames {
		wantTake(t, p, desc.Guest, 1+f%api.MaxVms, f, api.OK)
	}
	wantTake(t, p, desc.Guest, 1, 0, api.ErrFrame)
	wantErr(t, "Give", p.Give(api.MaxFrames-1), api.OK)
	wantTake(t, p, desc.Table, 1, api.MaxFrames-1, api.OK)
	wantTake(t, p, desc.Table, 1, 0, api.ErrFrame)
}

func TestTakeIsWhatNextTells(t *testing.T) {
	for _, kind := range append(kinds(), noKinds()...) {
		for _, owner := range owners() {
			p, want := stood(t)
			d, e := desc.Next(desc.Desc{}, kind, owner)
			f := 0
			if e == api.OK {
				f, want[2] = 2, d
			}
			wantTake(t, p, kind, owner, f, e)
			wantTable(t, p, want)
		}
	}
}

func TestTakeThatIsRefused(t *testing.T) {
	p, want := stood(t)
	for _, kind := range append(noKinds(), desc.Free, desc.Retired) {
		for _, owner := range owners() {
			wantTake(t, p, kind, owner, 0, api.ErrState)
		}
	}
	for _, owner := range []int{-1, 17, 256, 1 << 32, least, greatest} {
		for _, kind := range []int{desc.Cached, desc.Monitor, desc.Table, desc.Guest} {
			wantTake(t, p, kind, owner, 0, api.ErrArg)
		}
	}
	wantTake(t, p, desc.Table, 0, 0, api.ErrArg)
	wantTake(t, p, desc.Guest, 0, 0, api.ErrArg)
	wantTake(t, p, desc.Cached, 1, 0, api.ErrArg)
	wantTake(t, p, desc.Monitor, 16, 0, api.ErrArg)
	wantTable(t, p, want)
}

func TestTakeWhereNoneIsFree(t *testing.T) {
	p, want := stood(t)
	for f, d := range want {
		if d.Kind == desc.Free {
			bear(t, p, f, desc.Desc{Kind: desc.Cached})
		}
	}
	want = table(t, p)
	for _, kind := range append(kinds(), noKinds()...) {
		for _, owner := range owners() {
			wantTake(t, p, kind, owner, 0, api.ErrFrame)
		}
	}
	wantTable(t, p, want)
}

// P9.2: Give.

func TestGive(t *testing.T) {
	for f, want := range []api.Errno{
		api.OK, api.OK, api.ErrState, api.OK, api.OK, api.OK, api.OK,
		api.ErrBusy, api.ErrBusy, api.ErrState, api.ErrBusy, api.OK, api.ErrState,
	} {
		p, l := stood(t)
		wantErr(t, "Give", p.Give(f), want)
		if want != api.OK {
			wantTable(t, p, l)
			continue
		}
		wantTable(t, p, with(l, f, desc.Desc{}))
		wantErr(t, "Give", p.Give(f), api.ErrState)
		wantTable(t, p, with(l, f, desc.Desc{}))
	}
}

func TestGiveWhereThereIsNoFrame(t *testing.T) {
	p, want := stood(t)
	for _, f := range outside(len(want)) {
		wantErr(t, "Give", p.Give(f), api.ErrRange)
	}
	wantTable(t, p, want)
}

// P9.3: Ref.

func TestRefWhereThereIsNoFrame(t *testing.T) {
	p, want := stood(t)
	for _, f := range outside(len(want)) {
		for _, by := range bys() {
			wantErr(t, "Ref", p.Ref(f, by), api.ErrRange)
		}
	}
	wantTable(t, p, want)
}

func TestRefIsWhatRefTells(t *testing.T) {
	came := map[api.Errno]int{}
	for _, by := range bys() {
		for f := range 13 {
			p, want := stood(t)
			d, e := desc.Ref(want[f], by)
			if e == api.OK {
				want[f] = d
			}
			wantErr(t, "Ref", p.Ref(f, by), e)
			wantTable(t, p, want)
			came[e]++
		}
	}
	for _, e := range []api.Errno{api.OK, api.ErrState, api.ErrRange} {
		if came[e] == 0 {
			t.Errorf("the error %d did not come", e)
		}
	}
}

func TestRefByHand(t *testing.T) {
	p, want := stood(t)
	for _, c := range []struct {
		f, by, refs int
		e           api.Errno
	}{
		{0, 65535, 65535, api.OK},
		{0, 1, 65535, api.ErrRange},
		{0, -65535, 0, api.OK},
		{7, -3, 2, api.ErrRange},
		{7, 65534, 2, api.ErrRange},
		{7, -1, 1, api.OK},
		{7, -1, 0, api.OK},
		{7, -1, 0, api.ErrRange},
		{7, 0, 0, api.OK},
		{3, 2, 2, api.OK},
		{4, 2, 2, api.OK},
		{1, 1, 0, api.ErrState},
		{2, 0, 0, api.ErrState},
		{5, 1, 0, api.ErrState},
		{6, -1, 0, api.ErrState},
		{8, least, 65535, api.ErrRange},
		{8, greatest, 65535, api.ErrRange},
	} {
		wantErr(t, "Ref", p.Ref(c.f, c.by), c.e)
		want[c.f].Refs = c.refs
		wantTable(t, p, want)
	}
}

func TestWhenAllRefsAreGoneAFrameIsGiven(t *testing.T) {
	p := made(t, 1)
	wantTake(t, p, desc.Guest, 1, 0, api.OK)
	wantErr(t, "Ref", p.Ref(0, 2), api.OK)
	for range 2 {
		wantErr(t, "Give", p.Give(0), api.ErrBusy)
		wantErr(t, "Ref", p.Ref(0, -1), api.OK)
	}
	wantErr(t, "Give", p.Give(0), api.OK)
	wantTake(t, p, desc.Guest, 1, 0, api.OK)
}
