package walk

import (
	"math"
	"slices"
	"testing"

	"matryoshka/api"
	"matryoshka/mem"
)

const (
	least    = math.MinInt
	greatest = math.MaxInt
)

// The words of entries as chapter 11 says them, by sums: so that what a walker reads is held against something else than what it reads with.

func table(frame int) uint64 { return uint64(frame)*4096 + 1 }

func small(frame, rights int) uint64 { return table(frame) + uint64(rights)*2 }

func large(frame, rights int) uint64 { return small(frame, rights) + 16 }

// place is the word of a page's entry, likewise.
func place(frame, page, level int) int {
	for range level {
		page /= 16
	}
	return 16*frame + page%16
}

func load(at int) api.Act { return api.Act{Kind: api.ActLoad, At: at} }

func found(frame, rights, level int) Found { return Found{Frame: frame, Rights: rights, Level: level} }

func failed(level int, e api.Errno) Found { return Found{Level: level, E: e} }

// wrong is a word that is no right entry's. Where nothing else is laid it stands, so that a load at a wrong place is seen.
const wrong = 1<<40 + 7

// made is a memory of wrong words.
func made(t *testing.T, words int) *mem.Mem {
	t.Helper()
	m, e := mem.New(words)
	if e != api.OK {
		t.Fatal(e)
	}
	for at := range words {
		lay(t, m, at, wrong)
	}
	return m
}

func lay(t *testing.T, m *mem.Mem, at int, word uint64) {
	t.Helper()
	if e := m.Store(at, word); e != api.OK {
		t.Fatal(at, e)
	}
}

// chain is the tables of a page, the root first.
type chain [4]int

func chains() []chain { return []chain{{0, 1, 2, 3}, {3, 1, 4, 0}, {5, 4, 3, 2}, {2, 5, 0, 1}} }

func somePages() []int {
	return []int{0, 1, 15, 16, 17, 0x100, 0xfff, 0x1000, 0x1234, 0xabcd, 0xfff0, 65535}
}

// at is the word of the page's entry of a level.
func (c chain) at(page, level int) int { return place(c[3-level], page, level) }

// down is a memory in which the chain leads from the root down to a level, where this word stands.
func (c chain) down(t *testing.T, page, level int, word uint64) *mem.Mem {
	t.Helper()
	m := made(t, 16*(slices.Max(c[:])+1))
	for above := 3; above > level; above-- {
		lay(t, m, c.at(page, above), table(c[3-above+1]))
	}
	lay(t, m, c.at(page, level), word)
	return m
}

func begun(t *testing.T, root, page, want int) *Walker {
	t.Helper()
	w := New(root, page, want)
	if w == nil {
		t.Fatalf("New(%d, %d, %d) = nil", root, page, want)
	}
	return w
}

func wantNext(t *testing.T, w *Walker, want api.Act) {
	t.Helper()
	for range 2 {
		if a := w.Next(); a != want {
			t.Fatalf("Next = %v, want %v", a, want)
		}
	}
}

func wantResult(t *testing.T, w *Walker, want Found, done bool) {
	t.Helper()
	for range 2 {
		if f, is := w.Result(); f != want || is != done {
			t.Fatalf("Result = %v, %t, want %v, %t", f, is, want, done)
		}
	}
}

// wantPath asks for the list twice, and spoils the first one, with the room behind it.
func wantPath(t *testing.T, w *Walker, want ...int) {
	t.Helper()
	for range 2 {
		l := w.Path()
		if !slices.Equal(l, want) {
			t.Fatalf("Path = %v, want %v", l, want)
		}
		l = l[:cap(l)]
		for i := range l {
			l[i] = -7
		}
		_ = append(l, -8)
	}
}

// counts is what a memory has counted, and its words.
type counts struct {
	done, laid int
	words      []uint64
}

func countsOf(m *mem.Mem) counts {
	done, laid := m.Count()
	return counts{done, laid, m.Words(0, m.Len())}
}

// wantLoads: so many loads were done since, and nothing else.
func wantLoads(t *testing.T, m *mem.Mem, was counts, loads int) {
	t.Helper()
	now := countsOf(m)
	if now.done != was.done+loads || now.laid != was.laid || !slices.Equal(now.words, was.words) {
		t.Fatalf("%d acts, %d of them laid a word, want %d loads", now.done-was.done, now.laid-was.laid, loads)
	}
}

// goOn does a step that is to load this word, and behind which the walker isn't done.
func goOn(t *testing.T, w *Walker, m *mem.Mem, at int) {
	t.Helper()
	wantNext(t, w, load(at))
	wantResult(t, w, Found{}, false)
	was := countsOf(m)
	if w.Step(m) {
		f, _ := w.Result()
		t.Fatalf("the word %d: Step = yes: %v", at, f)
	}
	wantLoads(t, m, was, 1)
	wantResult(t, w, Found{}, false)
}

// goDown does the steps from the root to the one ahead of a level's.
func (c chain) goDown(t *testing.T, w *Walker, m *mem.Mem, page, level int) {
	t.Helper()
	for above := 3; above > level; above-- {
		wantPath(t, w, c[:3-above]...)
		goOn(t, w, m, c.at(page, above))
	}
	wantPath(t, w, c[:3-level]...)
	wantNext(t, w, load(c.at(page, level)))
}

// goEnd does a step that is to load this word, and behind which the walker is done with f, and stays so.
func goEnd(t *testing.T, w *Walker, m *mem.Mem, at int, f Found, path ...int) {
	t.Helper()
	wantNext(t, w, load(at))
	wantResult(t, w, Found{}, false)
	loads := 0
	if at < m.Len() {
		loads = 1
	}
	was := countsOf(m)
	if !w.Step(m) {
		t.Fatalf("the word %d: Step = no, want %v", at, f)
	}
	wantLoads(t, m, was, loads)
	wantStill(t, w, m, f, path...)
}

// wantStill: one that is done stays so, and loads nothing, with any memory.
func wantStill(t *testing.T, w *Walker, m *mem.Mem, f Found, path ...int) {
	t.Helper()
	was := countsOf(m)
	for _, other := range []*mem.Mem{m, nil, {}, m} {
		wantNext(t, w, api.Act{})
		wantResult(t, w, f, true)
		wantPath(t, w, path...)
		if !w.Step(other) {
			t.Fatal("Step = no of what is done")
		}
	}
	wantNext(t, w, api.Act{})
	wantResult(t, w, f, true)
	wantPath(t, w, path...)
	wantLoads(t, m, was, 0)
}

// The chapter's example, and the one of the whole.

func TestExample(t *testing.T) {
	m := made(t, 64)
	lay(t, m, 0*16+1, table(1))
	lay(t, m, 1*16+2, table(2))
	lay(t, m, 2*16+3, table(3))
	lay(t, m, 3*16+4, small(9, api.Read))
	if f := All(m, 0, 0x1234, api.Read); f != found(9, api.Read, 0) {
		t.Error(f)
	}
	w := begun(t, 0, 0x1234, api.Read)
	wantPath(t, w)
	goOn(t, w, m, 1)
	wantPath(t, w, 0)
	goOn(t, w, m, 18)
	wantPath(t, w, 0, 1)
	goOn(t, w, m, 35)
	wantPath(t, w, 0, 1, 2)
	goEnd(t, w, m, 52, found(9, api.Read, 0), 0, 1, 2, 3)
}

// The line ahead of the promises: which walkers there are, and what nil and zero ones answer.

func noRoots() []int { return []int{-1, 4096, 4097, -4095, 65535, 1 << 32, 1 << 60, least, greatest} }

func noPages() []int {
	return []int{-1, 65536, 65537, -65535, 1 << 20, 1 << 32, least, least + 1, greatest}
}

func noWants() []int { return []int{-1, 8, 9, -7, -8, 15, 16, 1 << 32, least, least + 7, greatest} }

func TestWhichWalkersAre(t *testing.T) {
	roots := append(noRoots(), 0, 1, 2048, 4095)
	pages := append(noPages(), 0, 1, 0x1234, 65535)
	wants := append(noWants(), 0, 1, 2, 3, 4, 5, 6, 7)
	m := made(t, 65536)
	for i, root := range roots {
		for j, page := range pages {
			for k, want := range wants {
				w := New(root, page, want)
				is := i >= len(noRoots()) && j >= len(noPages()) && k >= len(noWants())
				if is != (w != nil) {
					t.Fatalf("New(%d, %d, %d): %t", root, page, want, w != nil)
				}
				if is {
					wantNext(t, w, load(place(root, page, 3)))
					wantResult(t, w, Found{}, false)
					wantPath(t, w)
					continue
				}
				for _, m := range []*mem.Mem{m, nil, {}} {
					if f := All(m, root, page, want); f != (Found{E: api.ErrArg}) {
						t.Fatalf("All(%d, %d, %d) = %v", root, page, want, f)
					}
				}
			}
		}
	}
}

func TestAllOfNoneLoadsNothing(t *testing.T) {
	m := made(t, 16)
	was := countsOf(m)
	for _, root := range noRoots() {
		All(m, root, 0, 0)
	}
	for _, page := range noPages() {
		All(m, 0, page, 0)
	}
	for _, want := range noWants() {
		All(m, 0, 0, want)
	}
	wantLoads(t, m, was, 0)
}

func TestWalkersThatNewDidNotGive(t *testing.T) {
	m := chain{0, 1, 2, 3}.down(t, 0, 0, small(5, 7))
	was := countsOf(m)
	for name, w := range map[string]*Walker{"nil": nil, "zero": {}, "of no root": New(-1, 0, 0)} {
		for range 6 {
			for _, m := range []*mem.Mem{m, nil, {}} {
				if w.Step(m) {
					t.Errorf("%s: Step = yes", name)
				}
			}
			wantNext(t, w, api.Act{})
			wantResult(t, w, Found{}, false)
			wantPath(t, w)
		}
	}
	wantLoads(t, m, was, 0)
}

// TestNoughtsAreAWalker: the one of the root 0, the page 0 and no rights is told apart from one that New did not give.
func TestNoughtsAreAWalker(t *testing.T) {
	m := made(t, 16)
	lay(t, m, 0, 0)
	goEnd(t, begun(t, 0, 0, 0), m, 0, failed(3, api.ErrNone), 0)
}

// P12.2: Result, Path.

// TestAskingChangesNothing: of two walkers that go the same way one is asked often, the other one at last alone.
func TestAskingChangesNothing(t *testing.T) {
	c := chain{3, 1, 4, 0}
	for page := range 256 {
		m := c.down(t, page, 0, small(9, 5))
		asked, other := begun(t, c[0], page, 1), begun(t, c[0], page, 1)
		for level := 3; level >= 0; level-- {
			for range 5 {
				asked.Next()
				asked.Result()
				asked.Path()
			}
			if is, too := asked.Step(m), other.Step(m); is != (level == 0) || too != is {
				t.Fatalf("page %d, level %d: %t, %t", page, level, is, too)
			}
		}
		wantStill(t, asked, m, found(9, 5, 0), c[:]...)
		wantStill(t, other, m, found(9, 5, 0), c[:]...)
	}
}

// TestPathIsNewMemory: lists that were handed out ahead of steps are not changed by those, and change nothing.
func TestPathIsNewMemory(t *testing.T) {
	c := chain{5, 4, 3, 2}
	m := c.down(t, 0x321, 0, small(9, 1))
	w := begun(t, c[0], 0x321, 0)
	var l [][]int
	for range 4 {
		l = append(l, w.Path())
		w.Step(m)
	}
	l = append(l, w.Path(), w.Path())
	for i, one := range l {
		if want := c[:min(i, 4)]; !slices.Equal(one, want) {
			t.Errorf("%d: %v, want %v", i, one, want)
		}
	}
	for i := range l[4] {
		l[4][i] = -1
	}
	if !slices.Equal(l[5], c[:]) {
		t.Error(l[5])
	}
	wantPath(t, w, c[:]...)
}

// TestWalkersAreApart: what one does is not to be seen in another.
func TestWalkersAreApart(t *testing.T) {
	one, other := chain{0, 1, 2, 3}, chain{3, 1, 4, 0}
	m, n := one.down(t, 0x1234, 0, small(7, 3)), other.down(t, 0xabcd, 1, large(16, 4))
	w, v := begun(t, one[0], 0x1234, 3), begun(t, other[0], 0xabcd, 1)
	one.goDown(t, w, m, 0x1234, 1)
	wantNext(t, v, load(other.at(0xabcd, 3)))
	wantPath(t, v)
	other.goDown(t, v, n, 0xabcd, 1)
	goOn(t, w, m, one.at(0x1234, 1))
	ends := Found{Frame: 16 + 0xd, Rights: 4, Level: 1, E: api.ErrRight}
	goEnd(t, v, n, other.at(0xabcd, 1), ends, other[:3]...)
	goEnd(t, w, m, one.at(0x1234, 0), found(7, 3, 0), one[:]...)
	wantStill(t, v, n, ends, other[:3]...)
}
