package seqlock

import (
	"slices"
	"testing"

	"matryoshka/api"
	"matryoshka/mem"
)

// P4.2: Reader.

// reads is the acts of a reader alone.
func reads(l Lock) []api.Act {
	var acts []api.Act
	for i := range l.Size + 1 {
		acts = append(acts, load(l.At+i))
	}
	return append(acts, load(l.At))
}

func wantTries(t *testing.T, r *Reader, want int) {
	t.Helper()
	if n := r.Tries(); n != want {
		t.Fatalf("Tries = %d, want %d", n, want)
	}
}

func wantNoValues(t *testing.T, r *Reader) {
	t.Helper()
	if l, ok := r.Values(); len(l) != 0 || ok {
		t.Fatalf("Values = %v, %t", l, ok)
	}
}

func wantValues(t *testing.T, r *Reader, want ...uint64) {
	t.Helper()
	if l, ok := r.Values(); !slices.Equal(l, want) || !ok {
		t.Fatalf("Values = %v, %t, want %v", l, ok, want)
	}
}

func TestReaderAlone(t *testing.T) {
	for _, size := range []int{1, 2, 3, 15, 16} {
		for _, at := range []int{0, 1, 5} {
			for _, number := range []uint64{0, 2, 1 << 32, 1 << 63, most - 1} {
				l := Lock{At: at, Size: size}
				words := rising(most-3, at+size+2)
				words[at] = number
				m := with(t, words...)
				r := l.Read()
				wantTries(t, r, 0)
				acts := reads(l)
				for i, a := range acts {
					wantNoValues(t, r)
					if done := step(t, r, m, a); done != (i == len(acts)-1) {
						t.Fatalf("%v, %d: done %t", l, i, done)
					}
					wantTries(t, r, 1)
				}
				wantValues(t, r, words[at+1:at+1+size]...)
				wantStill(t, r, m)
				wantValues(t, r, words[at+1:at+1+size]...)
				wantTries(t, r, 1)
				wantWords(t, m, words...)
			}
		}
	}
}

func TestReaderAtTheGreatestPlace(t *testing.T) {
	m, _ := mem.New(65536)
	l := Lock{At: 65000, Size: 16}
	for i := range 16 {
		m.Store(65001+i, uint64(50+i))
	}
	r := l.Read()
	for _, a := range reads(l) {
		step(t, r, m, a)
	}
	wantValues(t, r, rising(50, 16)...)
}

// TestReaderKeepsWhatItRead: what is laid behind its end is not among its values.
func TestReaderKeepsWhatItRead(t *testing.T) {
	m := with(t, 0, 5, 6)
	r := Lock{Size: 2}.Read()
	finish(t, r, m)
	m.Store(1, 9)
	m.Store(0, 2)
	r.Step(m)
	wantValues(t, r, 5, 6)
	wantTries(t, r, 1)
}

func TestReaderWhileTheNumberIsOdd(t *testing.T) {
	for _, odd := range []uint64{1, 3, 1<<32 + 1, 1<<63 + 1, most} {
		m := with(t, odd, 5, 6)
		r := Lock{Size: 2}.Read()
		for i := range 10 {
			if step(t, r, m, load(0)) {
				t.Fatal("done")
			}
			wantTries(t, r, i+1)
			wantNoValues(t, r)
		}
		m.Store(0, odd+2)
		step(t, r, m, load(0))
		wantTries(t, r, 11)
		m.Store(0, odd+1)
		for i, a := range reads(Lock{Size: 2}) {
			if done := step(t, r, m, a); done != (i == 3) {
				t.Fatal(i, done)
			}
			wantTries(t, r, 12)
		}
		wantValues(t, r, 5, 6)
	}
}

// TestReaderWhoseNumberIsAnother: a number that is another one at the end, odd or not, greater or less: all over again.
func TestReaderWhoseNumberIsAnother(t *testing.T) {
	for _, c := range []struct{ first, last uint64 }{
		{0, 1}, {0, 2}, {0, most}, {0, 1 << 63}, {2, 0}, {4, 5}, {4, 3}, {4, 4 + 1<<32}, {most - 1, most}, {most - 1, 0},
	} {
		for _, when := range []int{1, 2, 3} {
			m := with(t, c.first, 5, 6)
			r := Lock{Size: 2}.Read()
			for i, a := range reads(Lock{Size: 2}) {
				if i == when {
					m.Store(0, c.last)
				}
				if step(t, r, m, a) {
					t.Fatalf("%v: done", c)
				}
			}
			wantTries(t, r, 1)
			wantNoValues(t, r)
			m.Store(0, 6)
			m.Store(1, 7)
			m.Store(2, 8)
			for i, a := range reads(Lock{Size: 2}) {
				if done := step(t, r, m, a); done != (i == 3) {
					t.Fatalf("%v, %d: %t", c, i, done)
				}
				wantTries(t, r, 2)
			}
			wantValues(t, r, 7, 8)
		}
	}
}

func TestReaderThatBeginsManyTimes(t *testing.T) {
	l := Lock{At: 1, Size: 3}
	m := with(t, 9, 0, 0, 0, 0, 9)
	r := l.Read()
	for i := range 20 {
		for j, a := range reads(l) {
			if j == 2 {
				w := l.Write(rising(uint64(i), 3))
				finish(t, w, m)
			}
			if step(t, r, m, a) {
				t.Fatal(i)
			}
			wantTries(t, r, i+1)
		}
	}
	for _, a := range reads(l) {
		step(t, r, m, a)
	}
	wantTries(t, r, 21)
	wantValues(t, r, 19, 20, 21)
}

func TestReaderThatAnErrorEnds(t *testing.T) {
	for _, size := range []int{1, 2, 16} {
		for turn := range size + 2 {
			for name, none := range noMemories(t) {
				m := with(t, rising(0, size+2)...)
				m.Store(1, 4)
				r := Lock{At: 1, Size: size}.Read()
				for range turn {
					if r.Step(m) {
						t.Fatal("done")
					}
				}
				if !r.Step(none) {
					t.Errorf("size %d, turn %d, %s: not done", size, turn, name)
				}
				wantTries(t, r, 1)
				wantNoValues(t, r)
				wantStill(t, r, m)
				wantTries(t, r, 1)
				wantNoValues(t, r)
			}
		}
	}
}

// TestReaderThatAnErrorEndsLate: the values of an earlier try aren't told, and the load that had the error counts as a try.
func TestReaderThatAnErrorEndsLate(t *testing.T) {
	m := with(t, 0, 5, 6)
	r := Lock{Size: 2}.Read()
	for range 3 {
		r.Step(m)
	}
	m.Store(0, 1)
	r.Step(m)
	r.Step(m)
	wantTries(t, r, 2)
	if !r.Step(nil) {
		t.Error("not done")
	}
	wantTries(t, r, 3)
	wantNoValues(t, r)
	m.Store(0, 0)
	wantStill(t, r, m)
	wantTries(t, r, 3)
	wantNoValues(t, r)
}

func TestReaderWhoseWordsAreNotAllThere(t *testing.T) {
	for _, size := range []int{1, 2, 16} {
		for have := range size + 1 {
			m := with(t, make([]uint64, 2+have)...)
			r := Lock{At: 2, Size: size}.Read()
			steps := finish(t, r, m)
			if steps != have+1 {
				t.Errorf("size %d, %d words: %d steps", size, have, steps)
			}
			wantTries(t, r, 1)
			wantNoValues(t, r)
			wantStill(t, r, m)
		}
	}
}

// R4: what Values answers is new memory, spare room too.
func TestValuesAreNewMemory(t *testing.T) {
	for _, size := range []int{1, 2, 15, 16} {
		m := with(t, append([]uint64{0}, rising(5, size)...)...)
		r := Lock{Size: size}.Read()
		finish(t, r, m)
		kept, _ := r.Values()
		l, _ := r.Values()
		spare := l[:cap(l)]
		for i := range spare {
			spare[i] = 99
		}
		_ = append(l, 98)
		wantValues(t, r, rising(5, size)...)
		if !slices.Equal(kept, rising(5, size)) {
			t.Error("an answer changed with another one:", kept)
		}
		wantWords(t, m, append([]uint64{0}, rising(5, size)...)...)
	}
}
