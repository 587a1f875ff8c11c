package desc

import (
	"math"
	"slices"
	"testing"

	"matryoshka/api"
)

const (
	least    = math.MinInt
	greatest = math.MaxInt
)

func kinds() []int { return []int{Free, Cached, Monitor, Table, Guest, Retired} }

// noKinds has numbers that are a kind modulo some power of two, too.
func noKinds() []int {
	return []int{-1, -2, -6, 6, 7, 8, 15, 16, 20, 63, 64, 65, 68, 1 << 8, 1<<32 + Guest, least, least + Guest, greatest}
}

// Numbers at the bounds of each field, just outside, and far outside.
func owners() []int {
	return []int{-1, 0, 1, 2, 15, 16, 17, 255, 256, 257, -16, 1 << 32, 1<<32 + 1, least, least + 1, greatest}
}
func refs() []int {
	return []int{-1, 0, 1, 2, 65534, 65535, 65536, 65537, -65535, 1 << 32, 1<<32 + 1, least, least + 1, greatest}
}
func epochs() []int {
	return []int{-1, 0, 1, 2, 1<<32 - 2, 1<<32 - 1, 1 << 32, 1<<32 + 1, -1 << 32, 1<<40 + 1, least, least + 1, greatest}
}

// descs is descriptors, right ones and others, of the kinds and of what are none.
func descs() []Desc {
	var l []Desc
	for _, kind := range slices.Concat(kinds(), noKinds()) {
		for _, owner := range owners() {
			for _, refs := range refs() {
				for _, epoch := range epochs() {
					l = append(l, Desc{kind, owner, refs, epoch})
				}
			}
		}
	}
	return l
}

// isRight is what the chapter says of a descriptor, sentence by sentence.
func isRight(d Desc) bool {
	if d.Owner < 0 || d.Owner > 16 || d.Refs < 0 || d.Refs > 65535 || d.Epoch < 0 || d.Epoch >= 1<<32 {
		return false
	}
	switch d.Kind {
	case Free, Cached:
		return d.Owner == 0 && d.Refs == 0 && d.Epoch == 0
	case Monitor:
		return d.Owner == 0 && d.Epoch == 0
	case Table, Guest:
		return d.Owner != 0 && d.Epoch == 0
	case Retired:
		return d.Refs == 0
	}
	return false
}

func rightDescs() []Desc {
	return slices.DeleteFunc(descs(), func(d Desc) bool { return !isRight(d) })
}

func wrongDescs() []Desc { return slices.DeleteFunc(descs(), isRight) }

// The kinds' numbers are what words are made of.

func TestKinds(t *testing.T) {
	if l := kinds(); !slices.Equal(l, []int{0, 1, 2, 3, 4, 5}) {
		t.Error(l)
	}
}

// P8.1: Right, Pack.

// bound is what right descriptors of a kind have at least and at most.
type bound struct {
	kind                  int
	leastOwner, mostOwner int
	mostRefs, mostEpoch   int
}

func bounds() []bound {
	return []bound{
		{Free, 0, 0, 0, 0},
		{Cached, 0, 0, 0, 0},
		{Monitor, 0, 0, 65535, 0},
		{Table, 1, 16, 65535, 0},
		{Guest, 1, 16, 65535, 0},
		{Retired, 0, 16, 0, 1<<32 - 1},
	}
}

func wantRight(t *testing.T, d Desc, want bool) {
	t.Helper()
	if Right(d) != want {
		t.Errorf("Right(%v) = %t", d, !want)
	}
	w, e := Pack(d)
	if !want && (w != 0 || e != api.ErrForm) || want && e != api.OK {
		t.Errorf("Pack(%v) = %#x, %d", d, w, e)
	}
}

func TestRightAtTheBounds(t *testing.T) {
	for _, b := range bounds() {
		for _, owner := range []int{-1, 0, 1, 16, 17} {
			wantRight(t, Desc{b.kind, owner, 0, 0}, owner >= b.leastOwner && owner <= b.mostOwner)
		}
		for _, refs := range []int{-1, 0, 1, 65535, 65536} {
			wantRight(t, Desc{b.kind, b.leastOwner, refs, 0}, refs >= 0 && refs <= b.mostRefs)
		}
		for _, epoch := range []int{-1, 0, 1, 1<<32 - 1, 1 << 32} {
			wantRight(t, Desc{b.kind, b.leastOwner, 0, epoch}, epoch >= 0 && epoch <= b.mostEpoch)
		}
		wantRight(t, Desc{b.kind, b.leastOwner, b.mostRefs, b.mostEpoch}, true)
		wantRight(t, Desc{b.kind, b.mostOwner, b.mostRefs, b.mostEpoch}, true)
	}
}

func TestRightOfEachOwner(t *testing.T) {
	for _, b := range bounds() {
		for owner := -300; owner <= 600; owner++ {
			wantRight(t, Desc{Kind: b.kind, Owner: owner}, owner >= b.leastOwner && owner <= b.mostOwner)
		}
	}
}

func TestRightOfNoKind(t *testing.T) {
	for _, kind := range noKinds() {
		for _, b := range bounds() {
			wantRight(t, Desc{kind, b.leastOwner, 0, 0}, false)
			wantRight(t, Desc{kind, b.mostOwner, b.mostRefs, b.mostEpoch}, false)
		}
	}
}

func TestRightOfAll(t *testing.T) {
	for _, d := range descs() {
		wantRight(t, d, isRight(d))
	}
}

// P8.4: Name.

func TestName(t *testing.T) {
	for kind, want := range map[int]string{
		Free: "free", Cached: "cached", Monitor: "monitor", Table: "table", Guest: "guest", Retired: "retired",
	} {
		if s := Name(kind); s != want {
			t.Errorf("Name(%d) = %q, want %q", kind, s, want)
		}
	}
	for _, kind := range noKinds() {
		if s := Name(kind); s != "" {
			t.Errorf("Name(%d) = %q", kind, s)
		}
	}
}
