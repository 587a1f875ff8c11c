package seqlock

import (
	"slices"
	"testing"

	"matryoshka/api"
	"matryoshka/mem"
)

// P4.1: Writer.

// writes is the acts of a writer alone, from a number that isn't odd.
func writes(l Lock, number uint64, v []uint64) []api.Act {
	acts := []api.Act{load(l.At), cas(l.At, number, number+1)}
	for i, x := range v {
		acts = append(acts, store(l.At+1+i, x))
	}
	return append(acts, store(l.At, number+2))
}

func wantTurn(t *testing.T, w *Writer, want int) {
	t.Helper()
	for range 2 {
		if n := w.Turn(); n != want {
			t.Fatalf("Turn = %d, want %d", n, want)
		}
	}
}

// goTo does a writer's steps up to a turn.
func goTo(t *testing.T, w *Writer, m *mem.Mem, turn int) {
	t.Helper()
	for range turn {
		w.Step(m)
	}
	wantTurn(t, w, turn)
}

func TestWriterAlone(t *testing.T) {
	for _, size := range []int{1, 2, 3, 15, 16} {
		for _, at := range []int{0, 1, 5} {
			for _, number := range []uint64{0, 2, 1 << 32, 1<<63 - 2, 1 << 63, most - 3, most - 1} {
				l := Lock{At: at, Size: size}
				words := rising(1000, at+size+2)
				words[at] = number
				m := with(t, words...)
				v := rising(most-1, size)
				w := l.Write(v)
				wantTurn(t, w, 0)
				acts := writes(l, number, v)
				for i, a := range acts {
					if done := step(t, w, m, a); done != (i == len(acts)-1) {
						t.Fatalf("%v: %v: done %t", l, a, done)
					}
					wantTurn(t, w, i+1)
					switch a.Kind {
					case api.ActCas:
						words[a.At] = a.B
					case api.ActStore:
						words[a.At] = a.A
					}
					wantWords(t, m, words...)
				}
				wantTurn(t, w, 3+size)
				wantStill(t, w, m)
				wantTurn(t, w, 3+size)
				if words[at] != number+2 {
					t.Fatal("the number is", words[at])
				}
			}
		}
	}
}

func TestWriterAtTheGreatestPlace(t *testing.T) {
	m, _ := mem.New(65536)
	l := Lock{At: 65000, Size: 16}
	v := rising(3, 16)
	w := l.Write(v)
	for _, a := range writes(l, 0, v) {
		step(t, w, m, a)
	}
	wantTurn(t, w, 19)
	if got := m.Words(64999, 19); !slices.Equal(got, append(append([]uint64{0, 2}, v...), 0)) {
		t.Error(got)
	}
}

// TestWriterModulo: the number before the last one goes round to 0.
func TestWriterModulo(t *testing.T) {
	m := with(t, most-1, 5)
	w := Lock{Size: 1}.Write([]uint64{9})
	step(t, w, m, load(0))
	step(t, w, m, cas(0, most-1, most))
	wantWords(t, m, most, 5)
	step(t, w, m, store(1, 9))
	if !step(t, w, m, store(0, 0)) {
		t.Error("not done")
	}
	wantWords(t, m, 0, 9)
}

func TestWriterWhileTheNumberIsOdd(t *testing.T) {
	for _, odd := range []uint64{1, 3, 1<<32 + 1, 1<<63 - 1, 1<<63 + 1, most - 2, most} {
		m := with(t, odd, 5, 6)
		w := Lock{Size: 2}.Write([]uint64{7, 8})
		for range 10 {
			if step(t, w, m, load(0)) {
				t.Fatal("done")
			}
			wantTurn(t, w, 0)
		}
		wantWords(t, m, odd, 5, 6)
		m.Store(0, odd+2)
		step(t, w, m, load(0))
		wantTurn(t, w, 0)
		m.Store(0, odd+3)
		for i, a := range writes(Lock{Size: 2}, odd+3, []uint64{7, 8}) {
			if done := step(t, w, m, a); done != (i == 4) {
				t.Fatal(a, done)
			}
		}
		wantWords(t, m, odd+5, 7, 8)
	}
}

func TestWriterWhoseCasSaysNo(t *testing.T) {
	l := Lock{At: 1, Size: 2}
	m := with(t, 40, 4, 5, 6)
	w := l.Write([]uint64{7, 8})
	number := uint64(4)
	for range 5 {
		step(t, w, m, load(1))
		wantTurn(t, w, 1)
		other := l.Write([]uint64{number, number})
		finish(t, other, m)
		if step(t, w, m, cas(1, number, number+1)) {
			t.Fatal("done")
		}
		wantTurn(t, w, 0)
		wantWords(t, m, 40, number+2, number, number)
		number += 2
	}
	for _, a := range writes(l, number, []uint64{7, 8}) {
		step(t, w, m, a)
	}
	wantTurn(t, w, 5)
	wantWords(t, m, 40, number+2, 7, 8)
}

// TestWriterWhoseCasMeetsAnother: the one ahead has claimed, and is not done: 0, and there again while it's odd.
func TestWriterWhoseCasMeetsAnother(t *testing.T) {
	l := Lock{Size: 1}
	m := with(t, 0, 5)
	late, early := l.Write([]uint64{7}), l.Write([]uint64{8})
	step(t, late, m, load(0))
	step(t, early, m, load(0))
	step(t, early, m, cas(0, 0, 1))
	wantTurn(t, early, 2)
	step(t, late, m, cas(0, 0, 1))
	wantTurn(t, late, 0)
	step(t, late, m, load(0))
	wantTurn(t, late, 0)
	wantWords(t, m, 1, 5)
	step(t, early, m, store(1, 8))
	step(t, late, m, load(0))
	wantTurn(t, late, 0)
	step(t, early, m, store(0, 2))
	for _, a := range writes(l, 2, []uint64{7}) {
		step(t, late, m, a)
	}
	wantWords(t, m, 4, 7)
}

// TestWriterNeedsNoMoreOfTheNumber: once it has claimed, it asks no more what the number is.
func TestWriterNeedsNoMoreOfTheNumber(t *testing.T) {
	m := with(t, 4, 5)
	w := Lock{Size: 1}.Write([]uint64{7})
	goTo(t, w, m, 2)
	m.Store(0, 100)
	step(t, w, m, store(1, 7))
	if !step(t, w, m, store(0, 6)) {
		t.Error("not done")
	}
	wantWords(t, m, 6, 7)
}

func TestWriterThatAnErrorEnds(t *testing.T) {
	for _, size := range []int{1, 2, 16} {
		l := Lock{At: 1, Size: size}
		v := rising(7, size)
		for turn := range 3 + size {
			for name, none := range noMemories(t) {
				m := with(t, make([]uint64, size+2)...)
				w := l.Write(v)
				goTo(t, w, m, turn)
				words := m.Words(0, m.Len())
				if !w.Step(none) {
					t.Errorf("size %d, turn %d, %s: not done", size, turn, name)
				}
				wantTurn(t, w, 3+size)
				wantStill(t, w, m)
				wantTurn(t, w, 3+size)
				wantWords(t, m, words...)
				if name == "short" {
					wantWords(t, none, 6)
				}
			}
		}
	}
}

// TestWriterWhoseWordsAreNotAllThere: it ends at the first word that is none, and what was laid ahead of that stays.
func TestWriterWhoseWordsAreNotAllThere(t *testing.T) {
	for _, size := range []int{1, 2, 16} {
		for have := range size + 1 {
			at := 2
			m := with(t, make([]uint64, at+have)...)
			v := rising(7, size)
			w := Lock{At: at, Size: size}.Write(v)
			steps := finish(t, w, m)
			want := []uint64{0, 0}
			wantSteps := 1
			if have > 0 {
				want = append(append(want, 1), v[:have-1]...)
				wantSteps = 2 + have
			}
			if steps != wantSteps {
				t.Errorf("size %d, %d words: %d steps, want %d", size, have, steps, wantSteps)
			}
			wantTurn(t, w, 3+size)
			wantWords(t, m, want...)
			wantStill(t, w, m)
		}
	}
}

// R4: the values that Write is handed are neither changed nor kept, nor the room behind them.
func TestWriteKeepsNothing(t *testing.T) {
	for turn := range 5 {
		m := with(t, 0, 5, 6)
		room := []uint64{7, 8, 9, 10}
		w := Lock{Size: 2}.Write(room[:2])
		for range turn {
			w.Step(m)
		}
		if !slices.Equal(room, []uint64{7, 8, 9, 10}) {
			t.Error("values changed:", room)
		}
		clear(room)
		for range 5 - turn {
			w.Step(m)
		}
		wantTurn(t, w, 5)
		wantWords(t, m, 2, 7, 8)
		if !slices.Equal(room, make([]uint64, 4)) {
			t.Error("values changed:", room)
		}
	}
}

func TestWritersOfOneListAreApart(t *testing.T) {
	v := []uint64{7, 8}
	l := Lock{Size: 2}
	one := l.Write(v)
	v[0] = 9
	other := l.Write(v)
	m, n := with(t, 0, 0, 0), with(t, 0, 0, 0)
	for range 5 {
		one.Step(m)
		other.Step(n)
	}
	wantWords(t, m, 2, 7, 8)
	wantWords(t, n, 2, 9, 8)
}
