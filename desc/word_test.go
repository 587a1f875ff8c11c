package desc

import (
	"testing"

	"matryoshka/api"
)

// wordOf is a descriptor's word as the chapter says it: by sums, so that fields that run into one another are seen.
func wordOf(d Desc) uint64 {
	return uint64(d.Kind) + uint64(d.Owner)*16 + uint64(d.Refs)*4096 + uint64(d.Epoch)*4294967296
}

func wantNone(t *testing.T, w uint64) {
	t.Helper()
	if d, ok := Parse(w); ok || d != (Desc{}) {
		t.Errorf("Parse(%#x) = %v, %t", w, d, ok)
	}
}

func wantDesc(t *testing.T, w uint64, want Desc) {
	t.Helper()
	if d, ok := Parse(w); !ok || d != want {
		t.Errorf("Parse(%#x) = %v, %t, want %v", w, d, ok, want)
	}
}

func wantWord(t *testing.T, d Desc, want uint64) {
	t.Helper()
	if w, e := Pack(d); w != want || e != api.OK {
		t.Errorf("Pack(%v) = %#x, %d, want %#x", d, w, e, want)
	}
}

// The chapter's example.

func TestExample(t *testing.T) {
	wantWord(t, Desc{Guest, 3, 2, 0}, 4+3<<4+2<<12)
	wantDesc(t, 4+3<<4+2<<12, Desc{Guest, 3, 2, 0})
}

// P8.1: Pack, Parse.

func TestWords(t *testing.T) {
	for _, c := range []struct {
		d Desc
		w uint64
	}{
		{Desc{}, 0},
		{Desc{Kind: Cached}, 1},
		{Desc{Kind: Monitor}, 2},
		{Desc{Kind: Monitor, Refs: 1}, 0x1002},
		{Desc{Kind: Monitor, Refs: 65535}, 0xffff002},
		{Desc{Kind: Table, Owner: 1}, 0x13},
		{Desc{Kind: Table, Owner: 16, Refs: 65535}, 0xffff103},
		{Desc{Kind: Guest, Owner: 15, Refs: 0x8001}, 0x80010f4},
		{Desc{Kind: Retired}, 5},
		{Desc{Kind: Retired, Owner: 16}, 0x105},
		{Desc{Kind: Retired, Epoch: 1}, 0x100000005},
		{Desc{Kind: Retired, Owner: 16, Epoch: 1<<32 - 1}, 0xffffffff00000105},
	} {
		wantWord(t, c.d, c.w)
		wantDesc(t, c.w, c.d)
	}
}

func TestWordOfEachRightDescriptor(t *testing.T) {
	for _, d := range rightDescs() {
		wantWord(t, d, wordOf(d))
		wantDesc(t, wordOf(d), d)
	}
}

// TestWordOfEachRef: a field's every number, with a neighbour on either side.
func TestWordOfEachRef(t *testing.T) {
	for refs := range 65536 {
		d := Desc{Guest, 16, refs, 0}
		wantWord(t, d, wordOf(d))
		wantDesc(t, wordOf(d), d)
	}
}

func TestWordsOfNoRightDescriptor(t *testing.T) {
	for kind := uint64(6); kind <= 15; kind++ {
		wantNone(t, kind)
		wantNone(t, kind|1<<4)
	}
	for owner := uint64(17); owner <= 255; owner++ {
		for kind := range uint64(6) {
			wantNone(t, kind|owner<<4)
		}
	}
	for _, d := range rightDescs() {
		for bit := 28; bit < 32; bit++ {
			wantNone(t, wordOf(d)|1<<bit)
		}
	}
}

func TestWordsWithWhatTheKindHasNot(t *testing.T) {
	const (
		owner    = 1 << 4
		refs     = 1 << 12
		mostRefs = 65535 << 12
		epoch    = 1 << 32
	)
	for _, w := range []uint64{
		Free | owner, Free | refs, Free | mostRefs, Free | epoch,
		Cached | owner, Cached | refs, Cached | mostRefs, Cached | epoch,
		Monitor | owner, Monitor | owner | refs, Monitor | epoch, Monitor | refs | epoch,
		Table, Table | refs, Table | epoch, Table | owner | epoch,
		Guest, Guest | refs, Guest | epoch, Guest | owner | epoch, Guest | owner | 1<<63,
		Retired | refs, Retired | owner | refs, Retired | epoch | refs, Retired | mostRefs,
	} {
		wantNone(t, w)
	}
}

// TestEachWordOfManyFields: a word of these fields is a right descriptor's just where what stands in them is one.
func TestEachWordOfManyFields(t *testing.T) {
	for kind := range uint64(16) {
		for owner := range uint64(256) {
			for _, refs := range []uint64{0, 1, 65535} {
				for _, gap := range []uint64{0, 1, 8, 15} {
					for _, epoch := range []uint64{0, 1, 1 << 31, 1<<32 - 1} {
						w := kind | owner<<4 | refs<<12 | gap<<28 | epoch<<32
						d := Desc{int(kind), int(owner), int(refs), int(epoch)}
						if gap == 0 && isRight(d) {
							wantDesc(t, w, d)
						} else {
							wantNone(t, w)
						}
					}
				}
			}
		}
	}
}

// P8.5: each right descriptor has one word.

func TestNoTwoHaveOneWord(t *testing.T) {
	whose := map[uint64]Desc{}
	for _, d := range rightDescs() {
		w, e := Pack(d)
		if e != api.OK {
			t.Fatal(d, e)
		}
		if other, ok := whose[w]; ok && other != d {
			t.Errorf("%v and %v have the word %#x", d, other, w)
		}
		whose[w] = d
	}
	if len(whose) != len(rightDescs()) {
		t.Errorf("%d words of %d descriptors", len(whose), len(rightDescs()))
	}
}

// TestNoOtherWord: a word that differs by one bit is another descriptor's, or none's.
func TestNoOtherWord(t *testing.T) {
	for _, d := range rightDescs() {
		w, _ := Pack(d)
		for bit := range 64 {
			other, ok := Parse(w ^ 1<<bit)
			if ok && other == d {
				t.Fatalf("%v has the words %#x and %#x", d, w, w^1<<bit)
			}
			if again, e := Pack(other); ok && (again != w^1<<bit || e != api.OK) {
				t.Fatalf("%#x is parsed as %v, that is packed as %#x", w^1<<bit, other, again)
			}
		}
	}
}
