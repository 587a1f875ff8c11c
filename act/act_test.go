package act

import (
	"math"
	"slices"
	"testing"

	"matryoshka/api"
	"matryoshka/mem"
)

const most = math.MaxUint64

// with is a memory of these words.
func with(t *testing.T, l ...uint64) *mem.Mem {
	t.Helper()
	m, e := mem.New(len(l))
	if e != api.OK {
		t.Fatal(e)
	}
	for at, v := range l {
		if e := m.Store(at, v); e != api.OK {
			t.Fatal(e)
		}
	}
	return m
}

func wantWords(t *testing.T, m *mem.Mem, want ...uint64) {
	t.Helper()
	if l := m.Words(0, m.Len()); !slices.Equal(l, want) {
		t.Errorf("words %v, want %v", l, want)
	}
}

func load(at int) api.Act             { return api.Act{Kind: api.ActLoad, At: at} }
func store(at int, v uint64) api.Act  { return api.Act{Kind: api.ActStore, At: at, A: v} }
func cas(at int, a, b uint64) api.Act { return api.Act{Kind: api.ActCas, At: at, A: a, B: b} }
func add(at int, v uint64) api.Act    { return api.Act{Kind: api.ActAdd, At: at, A: v} }
func of(kind, at int) api.Act         { return api.Act{Kind: kind, At: at} }
func kinds() []int                    { return []int{api.ActLoad, api.ActStore, api.ActCas, api.ActAdd} }
func noKinds() []int {
	return []int{0, -1, -2, -3, -4, 5, 6, 1 << 8, 1<<8 + 1, 1 << 32, 1<<32 + 2, math.MaxInt, math.MinInt, math.MinInt + 1}
}
func noPlaces(n int) []int            { return []int{-1, n, n + 1, -n, 1 << 32, math.MaxInt, math.MinInt} }
func noMemories() map[string]*mem.Mem { return map[string]*mem.Mem{"nil": nil, "zero": {}} }

// P3.1: Do, Run.

func TestDoAtFirstAndLastWord(t *testing.T) {
	for _, n := range []int{1, 2, 5, 65536} {
		for _, at := range []int{0, n - 1} {
			m, _ := mem.New(n)
			for i, c := range []struct {
				a    api.Act
				want Res
				word uint64
			}{
				{store(at, 5), Res{}, 5},
				{load(at), Res{V: 5}, 5},
				{cas(at, 5, 7), Res{Ok: true}, 7},
				{cas(at, 5, 8), Res{}, 7},
				{add(at, 2), Res{V: 7}, 9},
				{load(at), Res{V: 9}, 9},
			} {
				if r := Do(m, c.a); r != c.want {
					t.Errorf("%d words, %d: Do(%v) = %v, want %v", n, i, c.a, r, c.want)
				}
				want := make([]uint64, n)
				want[at] = c.word
				wantWords(t, m, want...)
			}
			if done, laid := m.Count(); done != 6 || laid != 3 {
				t.Error("each act is done once:", done, laid)
			}
		}
	}
}

func TestDoWhereThereIsNoWord(t *testing.T) {
	m := with(t, 10, 0, 12)
	for _, at := range noPlaces(3) {
		for _, a := range []api.Act{load(at), store(at, 5), cas(at, 0, 5), cas(at, 10, 5), cas(at, 12, 5), add(at, 5)} {
			if r := Do(m, a); r != (Res{E: api.ErrRange}) {
				t.Errorf("Do(%v) = %v", a, r)
			}
		}
	}
	wantWords(t, m, 10, 0, 12)
	if done, laid := m.Count(); done != 3 || laid != 3 {
		t.Error("counted:", done, laid)
	}
}

func TestDoOfNoKind(t *testing.T) {
	m := with(t, 10, 11)
	for _, kind := range noKinds() {
		for _, at := range append(noPlaces(2), 0, 1) {
			a := api.Act{Kind: kind, At: at, A: 10, B: 3}
			if r := Do(m, a); r != (Res{E: api.ErrArg}) {
				t.Errorf("Do(%v) = %v", a, r)
			}
		}
	}
	wantWords(t, m, 10, 11)
	if done, laid := m.Count(); done != 2 || laid != 2 {
		t.Error("counted:", done, laid)
	}
}

func TestDoWithNoMemory(t *testing.T) {
	for name, m := range noMemories() {
		for _, at := range append(noPlaces(1), 0) {
			for _, kind := range kinds() {
				if r := Do(m, of(kind, at)); r != (Res{E: api.ErrNil}) {
					t.Errorf("%s: kind %d at %d: %v", name, kind, at, r)
				}
			}
			for _, kind := range noKinds() {
				if r := Do(m, of(kind, at)); r != (Res{E: api.ErrArg}) {
					t.Errorf("%s: kind %d at %d: %v", name, kind, at, r)
				}
			}
		}
	}
}

// TestDoLeavesNumbersAside: numbers that a kind has no use for do nothing.
func TestDoLeavesNumbersAside(t *testing.T) {
	for _, c := range []struct {
		a    api.Act
		want Res
		word uint64
	}{
		{api.Act{Kind: api.ActLoad, At: 1, A: 5, B: 6}, Res{V: 4}, 4},
		{api.Act{Kind: api.ActStore, At: 1, A: 5, B: 6}, Res{}, 5},
		{api.Act{Kind: api.ActAdd, At: 1, A: 5, B: 6}, Res{V: 4}, 9},
		{api.Act{Kind: api.ActCas, At: 1, A: 4, B: 6}, Res{Ok: true}, 6},
		{api.Act{Kind: api.ActCas, At: 1, A: 6, B: 4}, Res{}, 4},
	} {
		m := with(t, 3, 4)
		if r := Do(m, c.a); r != c.want {
			t.Errorf("Do(%v) = %v, want %v", c.a, r, c.want)
		}
		wantWords(t, m, 3, c.word)
	}
}

func TestDoWithGreatNumbers(t *testing.T) {
	for _, c := range []struct {
		is   uint64
		a    api.Act
		want Res
		word uint64
	}{
		{most, load(0), Res{V: most}, most},
		{0, load(0), Res{}, 0},
		{0, store(0, most), Res{}, most},
		{most, store(0, 0), Res{}, 0},
		{most, cas(0, most, 0), Res{Ok: true}, 0},
		{0, cas(0, 0, most), Res{Ok: true}, most},
		{most, cas(0, most, most), Res{Ok: true}, most},
		{most, cas(0, most-1, 0), Res{}, most},
		{1 << 32, cas(0, 0, 1), Res{}, 1 << 32},
		{most, add(0, 1), Res{V: most}, 0},
		{most, add(0, most), Res{V: most}, most - 1},
		{1, add(0, most), Res{V: 1}, 0},
		{1 << 63, add(0, 1<<63), Res{V: 1 << 63}, 0},
		{7, add(0, 0), Res{V: 7}, 7},
		{0, add(0, 0), Res{}, 0},
	} {
		m := with(t, c.is)
		if r := Do(m, c.a); r != c.want {
			t.Errorf("of %d: Do(%v) = %v, want %v", c.is, c.a, r, c.want)
		}
		wantWords(t, m, c.word)
	}
}

func TestRunOfNone(t *testing.T) {
	m := with(t, 1)
	for _, l := range [][]api.Act{nil, {}} {
		if got := Run(m, l); len(got) != 0 {
			t.Error(got)
		}
		if got := Run(nil, l); len(got) != 0 {
			t.Error(got)
		}
	}
	wantWords(t, m, 1)
}

func TestRunOfOne(t *testing.T) {
	for _, a := range []api.Act{load(0), store(0, 4), cas(0, 3, 4), cas(0, 4, 3), add(0, 9), load(1), {}, of(5, 0)} {
		one, other := with(t, 3), with(t, 3)
		got, want := Run(one, []api.Act{a}), Do(other, a)
		if len(got) != 1 || got[0] != want {
			t.Errorf("Run(%v) = %v, want %v", a, got, want)
		}
		wantWords(t, one, other.Words(0, 1)...)
	}
}

func TestRunOfMany(t *testing.T) {
	m := with(t, 0, 0)
	got := Run(m, []api.Act{
		store(1, 5), load(1), load(2), cas(1, 5, 7), {}, cas(1, 5, 8), add(1, 2), store(-1, 3), of(5, 1), add(1, most), load(1), load(0),
	})
	want := []Res{
		{}, {V: 5}, {E: api.ErrRange}, {Ok: true}, {E: api.ErrArg}, {}, {V: 7}, {E: api.ErrRange}, {E: api.ErrArg}, {V: 9}, {V: 8}, {},
	}
	if !slices.Equal(got, want) {
		t.Errorf("%v, want %v", got, want)
	}
	wantWords(t, m, 0, 8)
}

func TestRunWithNoMemory(t *testing.T) {
	for name, m := range noMemories() {
		got := Run(m, []api.Act{load(0), {}, store(0, 1), cas(0, 0, 0), add(-1, 1)})
		if want := []Res{{E: api.ErrNil}, {E: api.ErrArg}, {E: api.ErrNil}, {E: api.ErrNil}, {E: api.ErrNil}}; !slices.Equal(got, want) {
			t.Errorf("%s: %v", name, got)
		}
	}
}

func TestRunIsDoOfAll(t *testing.T) {
	next := numbers(7)
	for _, n := range []int{2, 17, 1000} {
		var l []api.Act
		for range n {
			l = append(l, anyAct(next))
		}
		one, other := with(t, 0, 1, 2), with(t, 0, 1, 2)
		got := Run(one, l)
		var want []Res
		for _, a := range l {
			want = append(want, Do(other, a))
		}
		if !slices.Equal(got, want) {
			t.Errorf("%d acts: %v, want %v", n, got, want)
		}
		wantWords(t, one, other.Words(0, 3)...)
	}
}

// R4: what is handed in stays as it is, and what is told is new memory.
func TestRunKeepsNothing(t *testing.T) {
	m := with(t, 3, 4)
	room := []api.Act{add(0, 1), load(1), {Kind: 9, At: -7, A: 8, B: 9}, cas(1, 4, 5), store(0, 2), load(0)}
	was := slices.Clone(room)
	first := Run(m, room[:4])
	if !slices.Equal(room, was) {
		t.Error("the acts changed:", room)
	}
	told := slices.Clone(first)
	second := Run(m, room[:4])
	for i := range second[:cap(second)] {
		second[:cap(second)][i] = Res{V: 77}
	}
	clear(room)
	if !slices.Equal(first, told) {
		t.Error("an answer changed:", first)
	}
	wantWords(t, m, 5, 5)
}

// P3.2: Lays, Meets.

func TestLays(t *testing.T) {
	for _, at := range []int{0, 3, -1, math.MaxInt, math.MinInt} {
		for kind, want := range map[int]bool{api.ActLoad: false, api.ActStore: true, api.ActCas: true, api.ActAdd: true} {
			for _, v := range []uint64{0, 1, most} {
				if got := Lays(api.Act{Kind: kind, At: at, A: v, B: v}); got != want {
					t.Errorf("kind %d at %d: %t", kind, at, got)
				}
			}
		}
		for _, kind := range noKinds() {
			if Lays(of(kind, at)) {
				t.Errorf("kind %d at %d", kind, at)
			}
		}
	}
}

func TestMeetsOfEachTwoKinds(t *testing.T) {
	all := append(kinds(), noKinds()...)
	for _, a := range all {
		for _, b := range all {
			both := slices.Contains(kinds(), a) && slices.Contains(kinds(), b)
			want := both && (a != api.ActLoad || b != api.ActLoad)
			for _, at := range []int{0, 1, 65535, math.MaxInt} {
				if got := Meets(of(a, at), of(b, at)); got != want {
					t.Errorf("kinds %d and %d at %d: %t", a, b, at, got)
				}
			}
			for _, c := range [][2]int{{0, 1}, {1, 0}, {3, 4}, {0, 1 << 32}, {-1, 1}, {math.MaxInt, math.MinInt}} {
				if Meets(of(a, c[0]), of(b, c[1])) {
					t.Errorf("kinds %d and %d at %v", a, b, c)
				}
			}
		}
	}
}

func TestMeetsAsksNoNumbers(t *testing.T) {
	if !Meets(store(3, 5), store(3, 6)) || !Meets(cas(3, 1, 1), load(3)) || !Meets(load(3), add(3, 0)) {
		t.Error("these meet")
	}
	if Meets(load(3), api.Act{Kind: api.ActLoad, At: 3, A: 1, B: 2}) || Meets(store(3, 5), store(4, 5)) {
		t.Error("these do not meet")
	}
}

// P3.4: laws.

func numbers(seed uint64) func(n int) int {
	return func(n int) int {
		seed = seed*6364136223846793005 + 1442695040888963407
		return int(seed >> 33 % uint64(n))
	}
}

// anyAct is an act at one of three words, or beside them, of a kind or of none.
func anyAct(next func(int) int) api.Act {
	few := []uint64{0, 1, 2, most}
	return api.Act{Kind: next(6), At: next(5) - 1, A: few[next(4)], B: few[next(4)]}
}

func TestActsThatDoNotMeetGoInAnyOrder(t *testing.T) {
	next := numbers(3)
	apart := 0
	for range 20000 {
		a, b := anyAct(next), anyAct(next)
		if Meets(a, b) != Meets(b, a) {
			t.Fatalf("Meets(%v, %v) has two answers", a, b)
		}
		if Meets(a, b) {
			continue
		}
		apart++
		one := with(t, 0, 1, most)
		other := one.Copy()
		ra, rb := Do(one, a), Do(one, b)
		if sb, sa := Do(other, b), Do(other, a); sa != ra || sb != rb {
			t.Errorf("%v and %v tell %v, %v; the other way round %v, %v", a, b, ra, rb, sa, sb)
		}
		wantWords(t, other, one.Words(0, 3)...)
	}
	if apart < 1000 {
		t.Error("too few do not meet:", apart)
	}
}

func TestExample(t *testing.T) {
	m := with(t, 0, 0)
	Do(m, store(1, 5))
	if r := Do(m, load(1)); r != (Res{V: 5}) {
		t.Error(r)
	}
	if s := Show(cas(3, 1, 2)); s != "cas 3 1 2" {
		t.Error(s)
	}
}
