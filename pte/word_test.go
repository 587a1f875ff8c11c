package pte

import (
	"testing"

	"matryoshka/api"
)

// wordOf is an entry's word as the chapter says it: by sums, so that fields that run into one another are seen.
func wordOf(e Entry) uint64 {
	var w uint64
	if e.Present {
		w++
	}
	if e.Large {
		w += 16
	}
	return w + uint64(e.Rights)*2 + uint64(e.Frame)*4096
}

func wantWord(t *testing.T, e Entry, want uint64) {
	t.Helper()
	if w, fault := Pack(e); w != want || fault != api.OK {
		t.Errorf("Pack(%v) = %#x, %d, want %#x", e, w, fault, want)
	}
}

func wantEntry(t *testing.T, w uint64, want Entry) {
	t.Helper()
	if e, ok := Parse(w); !ok || e != want {
		t.Errorf("Parse(%#x) = %v, %t, want %v", w, e, ok, want)
	}
}

func wantNone(t *testing.T, w uint64) {
	t.Helper()
	if e, ok := Parse(w); ok || e != (Entry{}) {
		t.Errorf("Parse(%#x) = %v, %t", w, e, ok)
	}
}

// The chapter's example.

func TestExample(t *testing.T) {
	e := Entry{Present: true, Rights: api.Read | api.Write, Frame: 5}
	wantWord(t, e, 0x5007)
	wantEntry(t, 0x5007, e)
}

// P11.1: Pack, Parse.

func TestWords(t *testing.T) {
	for _, c := range []struct {
		e Entry
		w uint64
	}{
		{Entry{}, 0},
		{Entry{Present: true}, 1},
		{Entry{Present: true, Frame: 1}, 0x1001},
		{Entry{Present: true, Frame: 4095}, 0xfff001},
		{Entry{Present: true, Rights: 1}, 3},
		{Entry{Present: true, Rights: 2}, 5},
		{Entry{Present: true, Rights: 4}, 9},
		{Entry{Present: true, Rights: 7}, 0xf},
		{Entry{Present: true, Rights: 1, Large: true}, 0x13},
		{Entry{Present: true, Rights: 7, Large: true, Frame: 4094}, 0xffe01f},
		{Entry{Present: true, Rights: 6, Frame: 0x800}, 0x80000d},
	} {
		wantWord(t, c.e, c.w)
		wantEntry(t, c.w, c.e)
	}
}

func TestPackOfWhatIsNotRight(t *testing.T) {
	for _, e := range wrongEntries() {
		if w, fault := Pack(e); w != 0 || fault != api.ErrForm {
			t.Errorf("Pack(%v) = %#x, %d", e, w, fault)
		}
	}
}

// TestBitsOfNoField: each bit that belongs to no field, alone and beside right entries' words.
func TestBitsOfNoField(t *testing.T) {
	var noField []int
	for bit := 5; bit <= 11; bit++ {
		noField = append(noField, bit)
	}
	for bit := 24; bit <= 63; bit++ {
		noField = append(noField, bit)
	}
	for _, bit := range noField {
		wantNone(t, 1<<bit)
		for _, e := range eachRight() {
			wantNone(t, wordOf(e)|1<<bit)
		}
	}
	wantNone(t, ^uint64(0))
	wantNone(t, ^uint64(0)-1)
}

// TestEachWordOfTheFields: all words of 24 bits whose gap is none are tried; of them just those of right entries are parsed.
func TestEachWordOfTheFields(t *testing.T) {
	for frame := range uint64(4096) {
		for low := range uint64(32) {
			w := frame<<12 | low
			e := Entry{low&1 == 1, int(low >> 1 & 7), low>>4 == 1, int(frame)}
			if isRight(e) {
				wantEntry(t, w, e)
			} else {
				wantNone(t, w)
			}
		}
	}
}

func TestWordsThatAreNotPresent(t *testing.T) {
	for _, w := range []uint64{2, 4, 8, 0xe, 0x10, 0x12, 0x1000, 0xfff000, 0x800000, 0x1010, 0xfff01e} {
		wantNone(t, w)
	}
}

func TestWordsThatAreLargeWithoutRights(t *testing.T) {
	for _, w := range []uint64{0x11, 0x1011, 0xfff011} {
		wantNone(t, w)
	}
}

// P11.4: each right entry has one word.

func TestThereAndBack(t *testing.T) {
	whose := map[uint64]Entry{}
	for _, e := range eachRight() {
		wantWord(t, e, wordOf(e))
		wantEntry(t, wordOf(e), e)
		w, _ := Pack(e)
		if other, ok := whose[w]; ok {
			t.Errorf("%v and %v have the word %#x", e, other, w)
		}
		whose[w] = e
	}
	if len(whose) != 1+4096*15 {
		t.Error(len(whose))
	}
}

// TestNoOtherWord: a word that differs by one bit is another entry's, or none's.
func TestNoOtherWord(t *testing.T) {
	for _, e := range eachRight() {
		w, _ := Pack(e)
		for bit := range 64 {
			other := w ^ 1<<bit
			x, ok := Parse(other)
			if !ok {
				continue
			}
			if again, fault := Pack(x); x == e || again != other || fault != api.OK {
				t.Fatalf("Parse(%#x) = %v, that is packed as %#x, %d", other, x, again, fault)
			}
		}
	}
}

// TestWordsByLot: a word is an entry's just if the entry is packed as it; some have few bits, so that there are right ones.
func TestWordsByLot(t *testing.T) {
	state, found := uint64(1), 0
	for range 200000 {
		state = state*6364136223846793005 + 1442695040888963407
		for _, w := range []uint64{state, state >> 40, state >> 40 &^ 0xfe0, state>>40&^0xff0 | 1} {
			e, ok := Parse(w)
			again, fault := Pack(e)
			if ok && (again != w || fault != api.OK || !Right(e)) || !ok && e != (Entry{}) {
				t.Fatalf("Parse(%#x) = %v, %t, that is packed as %#x, %d", w, e, ok, again, fault)
			}
			if ok {
				found++
			}
		}
	}
	if found < 100000 {
		t.Error(found)
	}
}
