package seqlock

import (
	"slices"
	"testing"

	"matryoshka/mem"
)

// P4.3: laws.

// scene is a memory of one lock, at its word 0, with those who write and read it; as values, so that scenes can be compared and kept.
type scene struct {
	size    int
	words   [4]uint64
	writers [3]Writer
	readers [2]Reader
}

// has tells whether one is still on the way: which is a writer's number, or 3 and a reader's.
func (s *scene) has(which int) bool {
	if which < len(s.writers) {
		w := &s.writers[which]
		return !w.isNone() && !w.isDone()
	}
	r := &s.readers[which-len(s.writers)]
	return !r.isNone() && !r.isDone()
}

// behind is the scene behind a step of one of them. Tries are left out of it: else there would be no end of scenes.
func (s scene) behind(t *testing.T, which int) scene {
	m := with(t, s.words[:s.size+1]...)
	if which < len(s.writers) {
		s.writers[which].Step(m)
	} else {
		s.readers[which-len(s.writers)].Step(m)
		s.readers[which-len(s.writers)].tries = 0
	}
	copy(s.words[:], m.Words(0, m.Len()))
	return s
}

// whole tells whether values are those of one writer, or those of the beginning: values of one hang together.
func whole(v []uint64) bool {
	return slices.Equal(v, rising(v[0], len(v))) && v[0]%100 == 0
}

// TestLawsInAllOrders goes through every scene that some order of steps leads to.
func TestLawsInAllOrders(t *testing.T) {
	for _, c := range []struct {
		size, writers, readers int
		number                 uint64
	}{
		{1, 1, 1, 0}, {2, 1, 1, 0}, {3, 1, 2, 4}, {2, 2, 1, 0}, {2, 2, 2, 0}, {1, 3, 1, 1 << 40}, {2, 3, 1, 6}, {3, 2, 1, 0},
	} {
		l := Lock{Size: c.size}
		first := scene{size: c.size}
		first.words[0] = c.number
		copy(first.words[1:], rising(0, c.size))
		for i := range c.writers {
			first.writers[i] = *l.Write(rising(uint64(100*(i+1)), c.size))
		}
		for i := range c.readers {
			first.readers[i] = *l.Read()
		}
		goThrough(t, first, c.number+2*uint64(c.writers))
	}
}

// goThrough holds the laws against each scene from the first one on; last is the number when all writers are done.
func goThrough(t *testing.T, first scene, last uint64) {
	t.Helper()
	seen := map[scene]bool{first: true}
	work := []scene{first}
	told := map[uint64]bool{}
	for len(work) > 0 {
		s := work[len(work)-1]
		work = work[:len(work)-1]
		on := false
		for which := range len(s.writers) + len(s.readers) {
			if !s.has(which) {
				continue
			}
			on = true
			next := s.behind(t, which)
			if next.words[0] < s.words[0] {
				t.Fatalf("the number went from %d to %d", s.words[0], next.words[0])
			}
			if !seen[next] {
				seen[next] = true
				work = append(work, next)
			}
		}
		for i := range s.readers {
			if v, ok := s.readers[i].Values(); ok {
				told[v[0]] = true
				if !whole(v) {
					t.Fatalf("a reader has %v", v)
				}
			}
		}
		if !on && (s.words[0] != last || !whole(s.words[1:s.size+1])) {
			t.Fatalf("all are done, and the words are %v", s.words)
		}
	}
	for i := range howManyWriters(first) + 1 {
		if !told[uint64(100*i)] {
			t.Errorf("in no order does a reader have the values %d", 100*i)
		}
	}
}

func howManyWriters(s scene) int {
	n := 0
	for i := range s.writers {
		if !s.writers[i].isNone() {
			n++
		}
	}
	return n
}

func numbers(seed uint64) func(n int) int {
	return func(n int) int {
		seed = seed*6364136223846793005 + 1442695040888963407
		return int(seed >> 33 % uint64(n))
	}
}

// TestLawsInManyOrders: more writers and readers, and greater locks, in orders by lot; also such as leave one behind for long.
func TestLawsInManyOrders(t *testing.T) {
	for _, size := range []int{1, 2, 3, 7, 16} {
		for seed := range 200 {
			crowd(t, Lock{At: seed % 3, Size: size}, numbers(uint64(seed)))
		}
	}
}

// crowd lets six writers and six readers go on, till all are done.
func crowd(t *testing.T, l Lock, next func(int) int) {
	t.Helper()
	words := append(make([]uint64, l.At+1), rising(0, l.Size)...)
	m := with(t, append(words, 77)...)
	var writers []*Writer
	var readers []*Reader
	for i := range 6 {
		writers = append(writers, l.Write(rising(uint64(100*(i+1)), l.Size)))
		readers = append(readers, l.Read())
	}
	written, read, number := 0, 0, uint64(0)
	for turns := 0; written < 6 || read < 6; turns++ {
		if turns == 100000 {
			t.Fatalf("%d writers and %d readers are done, and no more", written, read)
		}
		i, many := next(6), 1+next(12)
		for range many {
			if next(2) == 0 {
				written += ends(writers[i], m)
			} else {
				read += ends(readers[i], m)
			}
			now := m.Words(l.At, 1)[0]
			if now < number || now/2 != uint64(written) {
				t.Fatalf("the number went from %d to %d with %d writers done", number, now, written)
			}
			number = now
		}
	}
	for i, r := range readers {
		if v, ok := r.Values(); !ok || !whole(v) {
			t.Fatalf("reader %d has %v, %t", i, v, ok)
		}
	}
	if v := m.Words(l.At+1, l.Size); number != 12 || !whole(v) || v[0] == 0 {
		t.Fatalf("at last %d, %v", number, v)
	}
	if v := m.Words(l.At+1+l.Size, 1); v[0] != 77 || !slices.Equal(m.Words(0, l.At), words[:l.At]) {
		t.Fatal("a word beside the lock changed")
	}
}

// ends does a step; 1, if it was the last one.
func ends(s stepper, m *mem.Mem) int {
	was := s.Next().Kind != 0
	if s.Step(m) && was {
		return 1
	}
	return 0
}

// TestWriterThatStops: one that has claimed the lock, and goes no further, stops all others, and nobody reads what it has laid.
func TestWriterThatStops(t *testing.T) {
	l := Lock{Size: 2}
	for turn := 2; turn <= 4; turn++ {
		m := with(t, 0, 5, 6)
		w, other, r := l.Write([]uint64{7, 8}), l.Write([]uint64{9, 10}), l.Read()
		goTo(t, w, m, turn)
		words := m.Words(0, 3)
		for range 50 {
			if other.Step(m) || r.Step(m) {
				t.Fatal("done")
			}
			wantTurn(t, other, 0)
		}
		wantTries(t, r, 50)
		wantNoValues(t, r)
		wantWords(t, m, words...)
	}
}

// TestReadersDoNotLay: however many there are, they change no word.
func TestReadersDoNotLay(t *testing.T) {
	m := with(t, 2, 5, 6)
	_, before := m.Count()
	for range 5 {
		r := Lock{Size: 2}.Read()
		finish(t, r, m)
		wantValues(t, r, 5, 6)
	}
	if _, laid := m.Count(); laid != before {
		t.Errorf("%d words were laid", laid-before)
	}
}
