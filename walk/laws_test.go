package walk

import (
	"slices"
	"testing"

	"matryoshka/api"
	"matryoshka/mem"
)

// P12.3 and P12.4: All, and laws, held against what the chapter says of a walk, told by sums.

// fields is a word's, as chapter 11 says them; no, if it's no right entry's.
func fields(word uint64) (present bool, rights int, isLarge bool, frame int, ok bool) {
	if word == 0 {
		return false, 0, false, 0, true
	}
	present, isLarge = word%2 == 1, word/16%2 == 1
	rights, frame = int(word/2%8), int(word/4096%4096)
	again := table(frame) + uint64(rights)*2
	if isLarge {
		again += 16
	}
	ok = present && again == word && (!isLarge || rights > 0)
	return present, rights, isLarge, frame, ok
}

// tale is a walk as it's to be: what it finds, and the words and frames that it loads, if each of its loads gets what load tells.
func tale(root, page, want int, load func(at int) (uint64, bool)) (f Found, places, path []int) {
	frame := root
	for level := 3; ; level-- {
		at := place(frame, page, level)
		places, path = append(places, at), append(path, frame)
		word, there := load(at)
		present, rights, isLarge, to, ok := fields(word)
		switch {
		case !there || !ok:
			return failed(level, api.ErrForm), places, path
		case !present:
			return failed(level, api.ErrNone), places, path
		case rights == 0 && level > 0:
			frame = to
			continue
		case isLarge && level == 1:
			return told(to+page%16, rights, 1, want), places, path
		case rights > 0 && !isLarge && level == 0:
			return told(to, rights, 0, want), places, path
		}
		return failed(level, api.ErrForm), places, path
	}
}

// still is loads from words that don't change.
func still(words []uint64) func(at int) (uint64, bool) {
	return func(at int) (uint64, bool) {
		if at >= len(words) {
			return 0, false
		}
		return words[at], true
	}
}

// numbers is numbers below n by lot, the same ones of the same seed.
func numbers(seed uint64) func(n int) int {
	return func(n int) int {
		seed = seed*6364136223846793005 + 1442695040888963407
		return int(seed >> 33 % uint64(n))
	}
}

// lotWord is a word by lot: most of them lead on, so that walks are long, and many lead back to few frames.
func lotWord(next func(int) int, frames int) uint64 {
	switch kind := next(20); {
	case kind < 12:
		return table(next(frames))
	case kind < 14:
		return small(next(frames), 1+next(7))
	case kind < 16:
		return large(16*next(3), 1+next(7))
	case kind == 16:
		return large(4070+next(26), 1+next(7))
	case kind == 17:
		return 0
	case kind == 18:
		return table(next(4096))
	}
	return uint64(next(1<<30))<<next(35) + uint64(next(32))
}

// scene is a memory of words by lot, and who walks in it.
type scene struct {
	frames           int
	m                *mem.Mem
	root, page, want int
}

func lotScene(t *testing.T, next func(int) int) scene {
	t.Helper()
	s := scene{frames: 1 + next(6), page: next(65536), want: next(8)}
	s.root = next(s.frames)
	s.m = made(t, 16*s.frames)
	for at := range s.m.Len() {
		lay(t, s.m, at, lotWord(next, s.frames))
	}
	return s
}

// ends counts what walks came to, so that it's seen that none of it is missing.
type ends map[Found]int

// count leaves frames and rights away: there are too many to be met all.
func (l ends) count(f Found) { l[failed(f.Level, f.E)]++ }

func (l ends) wantAll(t *testing.T) {
	t.Helper()
	for level := range 4 {
		for _, e := range []api.Errno{api.OK, api.ErrRight, api.ErrNone, api.ErrForm} {
			is := level < 2 || e == api.ErrNone || e == api.ErrForm
			if (l[failed(level, e)] > 0) != is {
				t.Errorf("the error %d at the level %d: %d times", e, level, l[failed(level, e)])
			}
		}
	}
}

// TestWordsByLot: a walker that goes on alone, and All, find what they are to find, with those loads and no others, and four at most; and a table that leads back is loaded from again.
func TestWordsByLot(t *testing.T) {
	came, again := ends{}, 0
	next := numbers(1)
	for range 20000 {
		s := lotScene(t, next)
		f, places, path := tale(s.root, s.page, s.want, still(s.m.Words(0, s.m.Len())))
		came.count(f)
		if slices.Index(path, path[len(path)-1]) < len(path)-1 {
			again++
		}
		loads := len(path)
		if places[loads-1] >= s.m.Len() {
			loads--
		}
		was := countsOf(s.m)
		if all := All(s.m, s.root, s.page, s.want); all != f {
			t.Fatalf("%v: All = %v, want %v", s, all, f)
		}
		wantLoads(t, s.m, was, loads)
		w := begun(t, s.root, s.page, s.want)
		for _, at := range places[:len(places)-1] {
			goOn(t, w, s.m, at)
		}
		goEnd(t, w, s.m, places[len(places)-1], f, path...)
		if len(path) > 4 {
			t.Fatal(path)
		}
	}
	came.wantAll(t)
	if again == 0 {
		t.Error("no table leads back")
	}
}

// TestOneTableAlone: it leads to itself at each place, so that the walk ends at the last level alone.
func TestOneTableAlone(t *testing.T) {
	m := made(t, 16)
	for at := range 16 {
		lay(t, m, at, table(0))
	}
	for _, page := range somePages() {
		w := begun(t, 0, page, 0)
		for level := 3; level > 0; level-- {
			goOn(t, w, m, place(0, page, level))
		}
		goEnd(t, w, m, place(0, page, 0), failed(0, api.ErrForm), 0, 0, 0, 0)
	}
}

// TestOtherWordsDoNotMatter: each word that isn't one of those that are loaded is changed, at each moment of a walk.
func TestOtherWordsDoNotMatter(t *testing.T) {
	next := numbers(2)
	for range 400 {
		s := lotScene(t, next)
		f, places, path := tale(s.root, s.page, s.want, still(s.m.Words(0, s.m.Len())))
		for moment := range len(places) {
			m := s.m.Copy()
			w := begun(t, s.root, s.page, s.want)
			for _, at := range places[:moment] {
				goOn(t, w, m, at)
			}
			for at := range m.Len() {
				if !slices.Contains(places, at) {
					lay(t, m, at, lotWord(next, s.frames))
				}
			}
			for _, at := range places[moment : len(places)-1] {
				goOn(t, w, m, at)
			}
			goEnd(t, w, m, places[len(places)-1], f, path...)
			if all := All(m, s.root, s.page, s.want); all != f {
				t.Fatalf("All = %v, want %v", all, f)
			}
		}
	}
}

// TestEachOtherWordAlone: one word changes, and it's none of those that are loaded.
func TestEachOtherWordAlone(t *testing.T) {
	c := chain{3, 1, 4, 0}
	const page = 0x1234
	m := c.down(t, page, 0, small(5, 7))
	loaded := []int{c.at(page, 3), c.at(page, 2), c.at(page, 1), c.at(page, 0)}
	for at := range m.Len() {
		for _, word := range []uint64{0, table(2), small(6, 1), large(16, 2)} {
			n := m.Copy()
			lay(t, n, at, word)
			f := All(n, c[0], page, 7)
			if is := f == found(5, 7, 0); is == slices.Contains(loaded, at) {
				t.Errorf("the word %d is %#x: %v", at, word, f)
			}
		}
	}
}

// goer is a walker that goes on among others, with the words that it was to load so far.
type goer struct {
	w                *Walker
	root, page, want int
	places           []int
	words            []uint64
}

// seen is loads of just those words, one behind the other.
func (g *goer) seen() func(at int) (uint64, bool) {
	i := -1
	return func(at int) (uint64, bool) {
		i++
		if i >= len(g.words) || g.places[i] != at {
			return 0, false
		}
		return g.words[i], true
	}
}

// step does a walker's step, keeps the word that stands there ahead of it, and tells whether that was the last one.
func (g *goer) step(t *testing.T, m *mem.Mem) bool {
	t.Helper()
	at := g.w.Next().At
	done := g.w.Step(m)
	g.places = append(g.places, at)
	if l := m.Words(at, 1); l != nil {
		g.words = append(g.words, l[0])
	}
	return done
}

// TestWordsThatChangeByLot: several walkers go on in one memory, whose words change all the time: each one finds what it is to find in the words that it met.
func TestWordsThatChangeByLot(t *testing.T) {
	came := ends{}
	next := numbers(3)
	s := lotScene(t, next)
	var all [4]goer
	for i := range all {
		all[i] = lotGoer(t, s, next)
	}
	for range 100000 {
		if next(3) == 0 {
			lay(t, s.m, next(s.m.Len()), lotWord(next, s.frames))
			continue
		}
		i := next(len(all))
		g := &all[i]
		done := g.step(t, s.m)
		if len(g.places) > 4 {
			t.Fatalf("%v is too long", g.places)
		}
		if !done {
			wantResult(t, g.w, Found{}, false)
			continue
		}
		f, places, path := tale(g.root, g.page, g.want, g.seen())
		if !slices.Equal(places, g.places) {
			t.Fatalf("loads %v, want %v", g.places, places)
		}
		wantStill(t, g.w, s.m, f, path...)
		came.count(f)
		all[i] = lotGoer(t, s, next)
	}
	came.wantAll(t)
}

func lotGoer(t *testing.T, s scene, next func(int) int) goer {
	t.Helper()
	g := goer{root: next(s.frames), page: next(65536), want: next(8)}
	g.w = begun(t, g.root, g.page, g.want)
	return g
}
