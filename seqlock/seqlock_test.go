package seqlock

import (
	"math"
	"slices"
	"testing"

	"matryoshka/api"
	"matryoshka/mem"
)

const most = math.MaxUint64

// with is a memory of these words.
func with(t *testing.T, l ...uint64) *mem.Mem {
	t.Helper()
	m, e := mem.New(len(l))
	if e != api.OK {
		t.Fatal(e)
	}
	for at, v := range l {
		if e := m.Store(at, v); e != api.OK {
			t.Fatal(e)
		}
	}
	return m
}

func wantWords(t *testing.T, m *mem.Mem, want ...uint64) {
	t.Helper()
	if l := m.Words(0, m.Len()); !slices.Equal(l, want) {
		t.Errorf("words %v, want %v", l, want)
	}
}

func load(at int) api.Act             { return api.Act{Kind: api.ActLoad, At: at} }
func store(at int, v uint64) api.Act  { return api.Act{Kind: api.ActStore, At: at, A: v} }
func cas(at int, a, b uint64) api.Act { return api.Act{Kind: api.ActCas, At: at, A: a, B: b} }

// rising is n values, from v on.
func rising(v uint64, n int) []uint64 {
	l := make([]uint64, max(n, 0))
	for i := range l {
		l[i] = v + uint64(i)
	}
	return l
}

// noMemories is memories in which every act has an error.
func noMemories(t *testing.T) map[string]*mem.Mem {
	return map[string]*mem.Mem{"nil": nil, "zero": {}, "short": with(t, 6)}
}

// stepper is a writer or a reader, as those who use it see it.
type stepper interface {
	Step(m *mem.Mem) bool
	Next() api.Act
}

// step does a step whose act is to be want, and tells its answer; Next tells that act as often as it's asked, and asking does nothing.
func step(t *testing.T, s stepper, m *mem.Mem, want api.Act) bool {
	t.Helper()
	for range 2 {
		if a := s.Next(); a != want {
			t.Fatalf("Next = %v, want %v", a, want)
		}
	}
	was, _ := m.Count()
	done := s.Step(m)
	if now, _ := m.Count(); now != was+1 {
		t.Fatalf("%v: %d acts in one step", want, now-was)
	}
	return done
}

// finish does steps till one is done, and tells how many; no test here needs a thousand.
func finish(t *testing.T, s stepper, m *mem.Mem) int {
	t.Helper()
	for i := range 1000 {
		if s.Step(m) {
			return i + 1
		}
	}
	t.Fatal("it goes on without an end")
	return 0
}

// wantStill: one that is done says so, has no next act, and does nothing, with any memory.
func wantStill(t *testing.T, s stepper, m *mem.Mem) {
	t.Helper()
	words := m.Words(0, m.Len())
	acts, laid := m.Count()
	for range 3 {
		if a := s.Next(); a != (api.Act{}) {
			t.Errorf("Next = %v of one that is done", a)
		}
		if !s.Step(m) || !s.Step(nil) || !s.Step(&mem.Mem{}) {
			t.Error("Step = no of one that is done")
		}
	}
	wantWords(t, m, words...)
	if a, l := m.Count(); a != acts || l != laid {
		t.Errorf("one that is done did %d acts", a-acts)
	}
}

// The line ahead of the promises: which locks there are, and what nil and zero ones answer.

func TestWhichLocksAre(t *testing.T) {
	sizes := map[int]bool{
		1: true, 2: true, 15: true, 16: true,
		0: false, 17: false, 18: false, -1: false, -16: false, 1 << 32: false, 1<<32 + 1: false, math.MaxInt: false, math.MinInt: false,
	}
	places := map[int]bool{
		0: true, 1: true, 64999: true, 65000: true,
		-1: false, -65000: false, 65001: false, 65535: false, 65536: false, 1 << 32: false, 1<<32 + 1: false, math.MaxInt: false, math.MinInt: false,
	}
	for size, sizeIs := range sizes {
		for at, placeIs := range places {
			l := Lock{At: at, Size: size}
			want := sizeIs && placeIs
			if got := l.Read() != nil; got != want {
				t.Errorf("%v: Read answers one: %t", l, got)
			}
			n := size
			if size < 0 || size > 18 {
				n = 1
			}
			if got := l.Write(make([]uint64, n)) != nil; got != want {
				t.Errorf("%v: Write of %d values answers one: %t", l, n, got)
			}
		}
	}
}

func TestWriteOfHowManyValues(t *testing.T) {
	for size := -1; size <= 18; size++ {
		l := Lock{Size: size}
		for n := range 20 {
			want := size >= 1 && size <= 16 && n == size
			if got := l.Write(make([]uint64, n)) != nil; got != want {
				t.Errorf("Size %d: Write of %d values answers one: %t", size, n, got)
			}
		}
		if l.Write(nil) != nil {
			t.Errorf("Size %d: Write(nil) answers one", size)
		}
		if size >= 1 && l.Write(make([]uint64, size-1, size+3)) != nil {
			t.Errorf("Size %d: Write takes the room behind its values", size)
		}
	}
}

func TestWritersOfNone(t *testing.T) {
	m := with(t, 0, 5, 6)
	for name, w := range map[string]*Writer{"nil": nil, "zero": {}, "of no lock": (Lock{Size: 17}).Write(make([]uint64, 17))} {
		for range 3 {
			if w.Step(m) || w.Step(nil) || w.Step(&mem.Mem{}) {
				t.Errorf("%s: Step = yes", name)
			}
			if a := w.Next(); a != (api.Act{}) {
				t.Errorf("%s: Next = %v", name, a)
			}
			if n := w.Turn(); n != 0 {
				t.Errorf("%s: Turn = %d", name, n)
			}
		}
	}
	wantWords(t, m, 0, 5, 6)
	if acts, _ := m.Count(); acts != 3 {
		t.Errorf("%d acts were done", acts-3)
	}
}

func TestReadersOfNone(t *testing.T) {
	m := with(t, 0, 5, 6)
	for name, r := range map[string]*Reader{"nil": nil, "zero": {}, "of no lock": (Lock{Size: 17}).Read()} {
		for range 3 {
			if r.Step(m) || r.Step(nil) || r.Step(&mem.Mem{}) {
				t.Errorf("%s: Step = yes", name)
			}
			if a := r.Next(); a != (api.Act{}) {
				t.Errorf("%s: Next = %v", name, a)
			}
			if l, ok := r.Values(); len(l) != 0 || ok {
				t.Errorf("%s: Values = %v, %t", name, l, ok)
			}
			if n := r.Tries(); n != 0 {
				t.Errorf("%s: Tries = %d", name, n)
			}
		}
	}
	if acts, _ := m.Count(); acts != 3 {
		t.Errorf("%d acts were done", acts-3)
	}
}

// The example of the chapter.
func TestExample(t *testing.T) {
	m := with(t, 0, 0, 0)
	l := Lock{Size: 2}
	w, r := l.Write([]uint64{7, 8}), l.Read()
	for i := range 5 {
		if done := w.Step(m); done != (i == 4) {
			t.Errorf("writer, step %d: %t", i+1, done)
		}
	}
	for i := range 4 {
		if done := r.Step(m); done != (i == 3) {
			t.Errorf("reader, step %d: %t", i+1, done)
		}
	}
	if v, ok := r.Values(); !ok || !slices.Equal(v, []uint64{7, 8}) {
		t.Error(v, ok)
	}
}
