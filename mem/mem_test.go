package mem

import (
	"math"
	"slices"
	"testing"

	"matryoshka/api"
)

const most = math.MaxUint64

func made(t *testing.T, words int) *Mem {
	t.Helper()
	m, e := New(words)
	if e != api.OK || m == nil {
		t.Fatalf("New(%d) = %v, %d", words, m, e)
	}
	return m
}

// with is memory that holds l, laid one by one.
func with(t *testing.T, l ...uint64) *Mem {
	t.Helper()
	m := made(t, len(l))
	for at, v := range l {
		if e := m.Store(at, v); e != api.OK {
			t.Fatalf("Store(%d, %d) = %d", at, v, e)
		}
	}
	return m
}

func wantWords(t *testing.T, m *Mem, want ...uint64) {
	t.Helper()
	if got := m.Words(0, m.Len()); !slices.Equal(got, want) {
		t.Errorf("words are %v, want %v", got, want)
	}
}

func wantCount(t *testing.T, m *Mem, done, laid int) {
	t.Helper()
	if a, b := m.Count(); a != done || b != laid {
		t.Errorf("Count = %d, %d, want %d, %d", a, b, done, laid)
	}
}

// outside is places that are none of n words.
func outside(n int) []int {
	return []int{n, n + 1, 2 * n, -1, -n, -n - 1, math.MinInt, math.MinInt + 1, math.MaxInt, math.MaxInt - 1,
		math.MinInt32, math.MaxInt32, math.MaxUint32, 1 << 32, 1<<32 + n - 1, -1 << 32, 1 << 62, -1 << 62, maxWords}
}

// P2.1: New, Len.

func TestNewHasSoManyWordsOfZero(t *testing.T) {
	for _, n := range []int{1, 2, 3, 15, 16, 17, 4096, 65535, 65536} {
		m := made(t, n)
		if m.Len() != n {
			t.Errorf("Len of New(%d) = %d", n, m.Len())
		}
		l := m.Words(0, n)
		if len(l) != n {
			t.Errorf("New(%d) tells %d words", n, len(l))
		}
		for at, v := range l {
			if w, e := m.Load(at); v != 0 || w != 0 || e != api.OK {
				t.Fatalf("New(%d) has %d, %d at %d, error %d", n, v, w, at, e)
			}
		}
		wantCount(t, m, n, 0)
	}
}

func TestNewOfWrongNumbers(t *testing.T) {
	for _, n := range []int{0, -1, -2, -65536, 65537, 65538, 131072, math.MinInt32, math.MaxInt32, math.MaxUint32, 1<<32 + 1, 1<<32 + 65536, 1 << 62, math.MinInt, math.MinInt + 1, math.MaxInt - 1, math.MaxInt} {
		if m, e := New(n); m != nil || e != api.ErrArg {
			t.Errorf("New(%d) = %v, %d", n, m, e)
		}
	}
}

func TestNewOnesAreApart(t *testing.T) {
	a, b := made(t, 2), made(t, 2)
	a.Store(0, 7)
	wantWords(t, a, 7, 0)
	wantWords(t, b, 0, 0)
	wantCount(t, a, 1, 1)
	wantCount(t, b, 0, 0)
}

func TestLenStays(t *testing.T) {
	m := made(t, 3)
	m.Store(2, 9)
	m.Store(3, 9)
	m.Add(0, 1)
	m.Words(0, 3)
	m.Copy()
	if m.Len() != 3 {
		t.Error(m.Len())
	}
}

// P2.2: Load, Store, Cas, Add.

func TestCallsAtFirstAndLastWord(t *testing.T) {
	for _, n := range []int{1, 2, 5, 65536} {
		for _, at := range []int{0, n - 1} {
			m := made(t, n)
			if e := m.Store(at, 5); e != api.OK {
				t.Errorf("Store(%d) of %d words: %d", at, n, e)
			}
			if yes, e := m.Cas(at, 5, 7); !yes || e != api.OK {
				t.Errorf("Cas(%d) of %d words: %t, %d", at, n, yes, e)
			}
			if v, e := m.Add(at, 2); v != 7 || e != api.OK {
				t.Errorf("Add(%d) of %d words: %d, %d", at, n, v, e)
			}
			if v, e := m.Load(at); v != 9 || e != api.OK {
				t.Errorf("Load(%d) of %d words: %d, %d", at, n, v, e)
			}
			want := make([]uint64, n)
			want[at] = 9
			wantWords(t, m, want...)
		}
	}
}

func TestCallsWhereThereIsNoWord(t *testing.T) {
	m := with(t, 10, 11, 12)
	for _, at := range outside(3) {
		if v, e := m.Load(at); v != 0 || e != api.ErrRange {
			t.Errorf("Load(%d) = %d, %d", at, v, e)
		}
		if e := m.Store(at, 5); e != api.ErrRange {
			t.Errorf("Store(%d) = %d", at, e)
		}
		for _, old := range []uint64{0, 10, 11, 12} {
			if yes, e := m.Cas(at, old, 5); yes || e != api.ErrRange {
				t.Errorf("Cas(%d, %d) = %t, %d", at, old, yes, e)
			}
		}
		if v, e := m.Add(at, 5); v != 0 || e != api.ErrRange {
			t.Errorf("Add(%d) = %d, %d", at, v, e)
		}
	}
	wantWords(t, m, 10, 11, 12)
	wantCount(t, m, 3, 3)
}

func TestLoadTellsAndLeavesTheWord(t *testing.T) {
	m := with(t, most, 0, 1<<63)
	for range 2 {
		for at, want := range []uint64{most, 0, 1 << 63} {
			if v, e := m.Load(at); v != want || e != api.OK {
				t.Errorf("Load(%d) = %d, %d", at, v, e)
			}
		}
	}
	wantWords(t, m, most, 0, 1<<63)
}

func TestStoreLaysAnyNumber(t *testing.T) {
	m := with(t, 3, 3, 3)
	for _, v := range []uint64{0, 1, 1<<32 - 1, 1 << 32, 1<<63 - 1, 1 << 63, most - 1, most, most, 0} {
		if e := m.Store(1, v); e != api.OK {
			t.Errorf("Store(1, %d) = %d", v, e)
		}
		wantWords(t, m, 3, v, 3)
	}
}

func TestCasSaysYesOfTheSameWordAlone(t *testing.T) {
	edges := []uint64{0, 1, 1 << 32, 1 << 63, most - 1, most}
	for _, is := range edges {
		for _, old := range edges {
			for _, now := range edges {
				m := with(t, 4, is, 4)
				yes, e := m.Cas(1, old, now)
				if yes != (is == old) || e != api.OK {
					t.Errorf("Cas(1, %d, %d) of %d = %t, %d", old, now, is, yes, e)
				}
				want := is
				if is == old {
					want = now
				}
				wantWords(t, m, 4, want, 4)
			}
		}
	}
}

func TestCasThatLaysTheSame(t *testing.T) {
	m := with(t, 6)
	if yes, e := m.Cas(0, 6, 6); !yes || e != api.OK {
		t.Error(yes, e)
	}
	wantWords(t, m, 6)
	wantCount(t, m, 2, 2)
}

func TestAddIsModulo(t *testing.T) {
	for _, c := range []struct{ is, v, want uint64 }{
		{0, 0, 0},
		{0, 1, 1},
		{0, most, most},
		{1, most, 0},
		{most, 0, most},
		{most, 1, 0},
		{most, 2, 1},
		{most, most, most - 1},
		{1 << 63, 1 << 63, 0},
		{1<<63 - 1, 1, 1 << 63},
		{1<<32 - 1, 1, 1 << 32},
	} {
		m := with(t, 8, c.is, 8)
		if was, e := m.Add(1, c.v); was != c.is || e != api.OK {
			t.Errorf("Add(1, %d) of %d = %d, %d", c.v, c.is, was, e)
		}
		wantWords(t, m, 8, c.want, 8)
	}
}

// P2.3: Words, Count, Copy.

func TestWordsAreThoseFromAtOn(t *testing.T) {
	l := []uint64{20, 21, 22, 23, 24}
	m := with(t, l...)
	for at := -2; at <= 7; at++ {
		for n := -2; n <= 7; n++ {
			var want []uint64
			if at >= 0 && n >= 1 && at+n <= 5 {
				want = l[at : at+n]
			}
			if got := m.Words(at, n); !slices.Equal(got, want) {
				t.Errorf("Words(%d, %d) = %v, want %v", at, n, got, want)
			}
		}
	}
}

func TestWordsOfTheGreatestMemory(t *testing.T) {
	m := made(t, 65536)
	m.Store(65535, 3)
	for _, c := range []struct{ at, n, want int }{
		{0, 65536, 65536}, {0, 65537, 0}, {1, 65535, 65535}, {1, 65536, 0}, {65535, 1, 1}, {65535, 2, 0}, {65536, 1, 0}, {65536, 0, 0},
	} {
		l := m.Words(c.at, c.n)
		if len(l) != c.want || c.want > 0 && l[c.want-1] != 3 {
			t.Errorf("Words(%d, %d) has %d words", c.at, c.n, len(l))
		}
	}
}

func TestWordsWithNumbersThatAreNone(t *testing.T) {
	m := with(t, 1, 2, 3)
	far := append(outside(3), 0, 1, 2, -2)
	for _, at := range far {
		for _, n := range far {
			if at >= 0 && n >= 1 && n <= 3 && at <= 3-n {
				continue
			}
			if l := m.Words(at, n); len(l) != 0 {
				t.Errorf("Words(%d, %d) = %v", at, n, l)
			}
		}
	}
	for _, c := range [][2]int{{math.MaxInt, 1}, {1, math.MaxInt}, {2, math.MaxInt - 1}, {math.MaxInt, math.MaxInt}, {math.MaxInt - 1, 3}, {math.MinInt, math.MinInt}, {math.MinInt, math.MaxInt}, {math.MinInt + 2, math.MaxInt}} {
		if l := m.Words(c[0], c[1]); len(l) != 0 {
			t.Errorf("Words(%d, %d) = %v", c[0], c[1], l)
		}
	}
}

func TestWordsAreNewMemory(t *testing.T) {
	m := with(t, 1, 2, 3, 4)
	all, some, again := m.Words(0, 4), m.Words(1, 2), m.Words(1, 2)
	for _, l := range [][]uint64{all, some} {
		spare := l[:cap(l)]
		for i := range spare {
			spare[i] = 99
		}
		_ = append(l, 98)
	}
	wantWords(t, m, 1, 2, 3, 4)
	if !slices.Equal(again, []uint64{2, 3}) {
		t.Error("an answer changed with another one:", again)
	}
	m.Store(1, 50)
	if !slices.Equal(again, []uint64{2, 3}) {
		t.Error("an answer changed with a word:", again)
	}
}

func TestCountBehindEachCall(t *testing.T) {
	m := made(t, 2)
	wantCount(t, m, 0, 0)
	for _, c := range []struct {
		name       string
		call       func()
		done, laid int
	}{
		{"Load", func() { m.Load(0) }, 1, 0},
		{"Load of no word", func() { m.Load(2) }, 0, 0},
		{"Store", func() { m.Store(1, 5) }, 1, 1},
		{"Store of the same", func() { m.Store(1, 5) }, 1, 1},
		{"Store at no word", func() { m.Store(-1, 5) }, 0, 0},
		{"Cas that says yes", func() { m.Cas(1, 5, 6) }, 1, 1},
		{"Cas that lays the same", func() { m.Cas(1, 6, 6) }, 1, 1},
		{"Cas that says no", func() { m.Cas(1, 5, 7) }, 1, 0},
		{"Cas that says no, of the same", func() { m.Cas(1, 5, 6) }, 1, 0},
		{"Cas at no word", func() { m.Cas(2, 0, 0) }, 0, 0},
		{"Add", func() { m.Add(0, 3) }, 1, 1},
		{"Add of 0", func() { m.Add(0, 0) }, 1, 1},
		{"Add at no word", func() { m.Add(math.MaxInt, 3) }, 0, 0},
		{"Words", func() { m.Words(0, 2) }, 0, 0},
		{"Words that are not there", func() { m.Words(0, 3) }, 0, 0},
		{"Len", func() { m.Len() }, 0, 0},
		{"Count", func() { m.Count() }, 0, 0},
		{"Copy", func() { m.Copy() }, 0, 0},
		{"New", func() { New(2) }, 0, 0},
	} {
		done, laid := m.Count()
		c.call()
		if d, l := m.Count(); d != done+c.done || l != laid+c.laid {
			t.Errorf("%s: Count went from %d, %d to %d, %d", c.name, done, laid, d, l)
		}
	}
}

func TestCopyIsTheSame(t *testing.T) {
	for _, n := range []int{1, 2, 65536} {
		m := made(t, n)
		m.Store(n-1, 5)
		m.Cas(n-1, 4, 9)
		m.Load(0)
		m.Load(n)
		c := m.Copy()
		if c == nil || c == m || c.Len() != n {
			t.Fatalf("Copy of %d words: %v", n, c)
		}
		wantWords(t, c, m.Words(0, n)...)
		wantCount(t, c, 3, 1)
		wantCount(t, m, 3, 1)
	}
}

func TestCopyIsApart(t *testing.T) {
	m := with(t, 1, 2)
	c := m.Copy()
	m.Store(0, 10)
	m.Load(0)
	wantWords(t, c, 1, 2)
	wantCount(t, c, 2, 2)
	c.Add(1, 20)
	c.Cas(1, 0, 5)
	c.Load(0)
	wantWords(t, m, 10, 2)
	wantCount(t, m, 4, 3)
	wantWords(t, c, 1, 22)
	wantCount(t, c, 5, 3)
	d := c.Copy()
	c.Store(0, 3)
	wantWords(t, d, 1, 22)
	wantCount(t, d, 5, 3)
}

func TestCopyDoesWhatTheOneDoes(t *testing.T) {
	m := with(t, 1, 2)
	c := m.Copy()
	if v, e := c.Load(2); v != 0 || e != api.ErrRange {
		t.Error(v, e)
	}
	if e := c.Store(-1, 0); e != api.ErrRange {
		t.Error(e)
	}
	if yes, e := c.Cas(1, 2, 3); !yes || e != api.OK {
		t.Error(yes, e)
	}
	if v, e := c.Add(1, 1); v != 3 || e != api.OK {
		t.Error(v, e)
	}
}

// P2.4: laws.

// TestLaws holds a long row of calls against a plain list of what was laid last.
func TestLaws(t *testing.T) {
	for _, n := range []int{1, 2, 3, 16, 67} {
		m := made(t, n)
		want := make([]uint64, n)
		done, laid := 0, 0
		seed := uint64(n)
		next := func() uint64 {
			seed = seed*6364136223846793005 + 1442695040888963407
			return seed >> 20
		}
		for step := range 4000 {
			at := int(next()%uint64(n+2)) - 1
			v := next() % 3 * (most / 2)
			kind := next() % 4
			there := at >= 0 && at < n
			var is uint64
			wantErr := api.ErrRange
			if there {
				is, wantErr = want[at], api.OK
				done++
			}
			switch kind {
			case 0:
				if got, e := m.Load(at); got != is || e != wantErr {
					t.Fatalf("step %d: Load(%d) = %d, %d", step, at, got, e)
				}
			case 1:
				if e := m.Store(at, v); e != wantErr {
					t.Fatalf("step %d: Store(%d) = %d", step, at, e)
				}
				if there {
					want[at] = v
					laid++
				}
			case 2:
				old := next() % 3 * (most / 2)
				yes, e := m.Cas(at, old, v)
				if yes != (there && old == is) || e != wantErr {
					t.Fatalf("step %d: Cas(%d) = %t, %d", step, at, yes, e)
				}
				if yes {
					want[at] = v
					laid++
				}
			case 3:
				if got, e := m.Add(at, v); got != is || e != wantErr {
					t.Fatalf("step %d: Add(%d) = %d, %d", step, at, got, e)
				}
				if there {
					want[at] += v
					laid++
				}
			}
			wantWords(t, m, want...)
			wantCount(t, m, done, laid)
			if t.Failed() {
				t.Fatalf("step %d, kind %d, at %d of %d words", step, kind, at, n)
			}
		}
	}
}

func TestExample(t *testing.T) {
	m := made(t, 2)
	if e := m.Store(1, 5); e != api.OK {
		t.Error(e)
	}
	if yes, e := m.Cas(1, 5, 7); !yes || e != api.OK {
		t.Error(yes, e)
	}
	if v, e := m.Add(1, 2); v != 7 || e != api.OK {
		t.Error(v, e)
	}
	if v, e := m.Load(1); v != 9 || e != api.OK {
		t.Error(v, e)
	}
	wantWords(t, m, 0, 9)
	wantCount(t, m, 4, 3)
}

// The line ahead of the promises: nil, and one that New did not give.

func TestOfNone(t *testing.T) {
	for name, m := range map[string]*Mem{"nil": nil, "zero": {}} {
		for _, at := range append(outside(1), 0, 1) {
			if v, e := m.Load(at); v != 0 || e != api.ErrNil {
				t.Errorf("%s: Load(%d) = %d, %d", name, at, v, e)
			}
			if e := m.Store(at, 5); e != api.ErrNil {
				t.Errorf("%s: Store(%d) = %d", name, at, e)
			}
			if yes, e := m.Cas(at, 0, 0); yes || e != api.ErrNil {
				t.Errorf("%s: Cas(%d) = %t, %d", name, at, yes, e)
			}
			if v, e := m.Add(at, 5); v != 0 || e != api.ErrNil {
				t.Errorf("%s: Add(%d) = %d, %d", name, at, v, e)
			}
			for _, n := range []int{math.MinInt, -1, 0, 1, math.MaxInt} {
				if l := m.Words(at, n); len(l) != 0 {
					t.Errorf("%s: Words(%d, %d) = %v", name, at, n, l)
				}
			}
		}
		if m.Len() != 0 {
			t.Errorf("%s: Len = %d", name, m.Len())
		}
		wantCount(t, m, 0, 0)
		if c := m.Copy(); c != nil {
			t.Errorf("%s: Copy = %v", name, c)
		}
	}
}
