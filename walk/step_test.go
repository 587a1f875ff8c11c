package walk

import (
	"testing"

	"matryoshka/api"
	"matryoshka/mem"
)

// P12.1: Next, Step; and what Result and Path tell behind it (P12.2).

// wantEnd: a word of a level, behind a chain of tables, ends a walker with f; and All too.
func (c chain) wantEnd(t *testing.T, page, level, want int, word uint64, f Found) {
	t.Helper()
	m := c.down(t, page, level, word)
	w := begun(t, c[0], page, want)
	c.goDown(t, w, m, page, level)
	goEnd(t, w, m, c.at(page, level), f, c[:4-level]...)
	was := countsOf(m)
	if all := All(m, c[0], page, want); all != f {
		t.Fatalf("All = %v, want %v", all, f)
	}
	wantLoads(t, m, was, 4-level)
}

// everywhere does something for each of some chains, pages, levels and wants.
func everywhere(do func(c chain, page, level, want int)) {
	for _, c := range chains() {
		for _, page := range somePages() {
			for level := range 4 {
				for _, want := range []int{0, 1, 7} {
					do(c, page, level, want)
				}
			}
		}
	}
}

func wrongWords() []uint64 {
	l := []uint64{2, 4, 8, 0xe, 0x10, 0x1e, 0x11, 0x1011, 0xfff011, 0x1000, 0xfff000, 0xfff00e, wrong, 1<<64 - 1, 1<<64 - 2}
	for _, bit := range []int{5, 6, 11, 24, 25, 31, 32, 62, 63} {
		l = append(l, 1<<bit, table(1)|1<<bit, small(5, 7)|1<<bit, large(16, 7)|1<<bit)
	}
	return l
}

func TestWordsOfNoEntry(t *testing.T) {
	c := chain{3, 1, 4, 0}
	for level := range 4 {
		for _, word := range wrongWords() {
			c.wantEnd(t, 0x1234, level, 0, word, failed(level, api.ErrForm))
		}
	}
	everywhere(func(c chain, page, level, want int) {
		c.wantEnd(t, page, level, want, 0x11, failed(level, api.ErrForm))
		c.wantEnd(t, page, level, want, 2, failed(level, api.ErrForm))
	})
}

func TestNotPresent(t *testing.T) {
	everywhere(func(c chain, page, level, want int) {
		c.wantEnd(t, page, level, want, 0, failed(level, api.ErrNone))
	})
}

// TestTableAboveTheLast: it's loaded from next, a level lower, whichever frame it is.
func TestTableAboveTheLast(t *testing.T) {
	for _, page := range somePages() {
		for level := 3; level > 0; level-- {
			for _, frame := range []int{0, 1, 2, 6, 7, 255, 4094, 4095} {
				c := chain{3, 1, 4, 0}
				m := c.down(t, page, level, table(frame))
				w := begun(t, c[0], page, 0)
				c.goDown(t, w, m, page, level)
				goOn(t, w, m, c.at(page, level))
				wantNext(t, w, load(place(frame, page, level-1)))
				wantPath(t, w, c[:4-level]...)
			}
		}
	}
}

func TestTableAtTheLast(t *testing.T) {
	for _, c := range chains() {
		for _, page := range somePages() {
			for _, frame := range []int{0, 1, 5, 4095} {
				c.wantEnd(t, page, 0, 0, table(frame), failed(0, api.ErrForm))
			}
		}
	}
}

func TestPageThatIsNotLarge(t *testing.T) {
	for _, frame := range []int{0, 1, 16, 4080, 4081, 4095} {
		everywhere(func(c chain, page, level, want int) {
			f := failed(level, api.ErrForm)
			if level == 0 {
				f = found(frame, 7, 0)
			}
			c.wantEnd(t, page, level, want, small(frame, 7), f)
		})
	}
}

func TestLargePage(t *testing.T) {
	for _, frame := range []int{0, 1, 16, 31, 4079, 4080} {
		everywhere(func(c chain, page, level, want int) {
			f := failed(level, api.ErrForm)
			if level == 1 {
				f = found(frame+page%16, 7, 1)
			}
			c.wantEnd(t, page, level, want, large(frame, 7), f)
		})
	}
}

// TestWrongPlaceOfAPage: at a level that isn't its own a page is no frame, whether or not it allows what is wanted.
func TestWrongPlaceOfAPage(t *testing.T) {
	c := chain{0, 1, 2, 3}
	for rights := 1; rights <= 7; rights++ {
		for want := range 8 {
			for _, level := range []int{3, 2, 1} {
				c.wantEnd(t, 0x1234, level, want, small(5, rights), failed(level, api.ErrForm))
			}
			for _, level := range []int{3, 2, 0} {
				c.wantEnd(t, 0x1234, level, want, large(16, rights), failed(level, api.ErrForm))
			}
		}
	}
}

// allows is said of rights one by one, apart from how the program says it.
func allows(rights, want int) bool {
	for _, one := range []int{1, 2, 4} {
		if want/one%2 == 1 && rights/one%2 == 0 {
			return false
		}
	}
	return true
}

// told is what is found in a frame.
func told(frame, rights, level, want int) Found {
	f := found(frame, rights, level)
	switch {
	case frame > 4095:
		return failed(level, api.ErrForm)
	case !allows(rights, want):
		f.E = api.ErrRight
	}
	return f
}

func TestRights(t *testing.T) {
	for rights := 1; rights <= 7; rights++ {
		for want := range 8 {
			for _, page := range []int{0, 0x1234, 65535} {
				for _, frame := range []int{0, 5, 4080} {
					c := chain{5, 4, 3, 2}
					c.wantEnd(t, page, 0, want, small(frame, rights), told(frame, rights, 0, want))
					c.wantEnd(t, page, 1, want, large(frame, rights), told(frame+page%16, rights, 1, want))
				}
			}
		}
	}
}

func TestRightsByName(t *testing.T) {
	c := chain{0, 1, 2, 3}
	readOnly := Found{Frame: 5, Rights: api.Read}
	c.wantEnd(t, 7, 0, api.Read, small(5, api.Read), readOnly)
	c.wantEnd(t, 7, 0, 0, small(5, api.Read), readOnly)
	readOnly.E = api.ErrRight
	c.wantEnd(t, 7, 0, api.Write, small(5, api.Read), readOnly)
	c.wantEnd(t, 7, 0, api.Read|api.Write, small(5, api.Read), readOnly)
	c.wantEnd(t, 7, 0, api.Exec, small(5, api.Read), readOnly)
}

// TestLargePageAtTheLastFrames: pages on both sides of the last frame; one beyond it is ErrForm also where the right is missing.
func TestLargePageAtTheLastFrames(t *testing.T) {
	ended := map[api.Errno]int{}
	for frame := 4079; frame <= 4095; frame++ {
		for page := 0xab0; page <= 0xabf; page++ {
			for _, want := range []int{0, 1, 2, 3, 7} {
				f := told(frame+page%16, 3, 1, want)
				ended[f.E]++
				chain{0, 1, 2, 3}.wantEnd(t, page, 1, want, large(frame, 3), f)
			}
		}
	}
	if ended[api.OK] == 0 || ended[api.ErrRight] == 0 || ended[api.ErrForm] != 5*(15*16/2) {
		t.Error(ended)
	}
}

// Loads with an error.

// TestTableBehindTheLastWord: a table that an entry tells, of which memory has nothing, or not so much.
func TestTableBehindTheLastWord(t *testing.T) {
	for _, page := range somePages() {
		for level := 3; level > 0; level-- {
			for _, frame := range []int{5, 6, 100, 4094, 4095} {
				c := chain{3, 1, 4, 0}
				m := c.down(t, page, level, table(frame))
				w := begun(t, c[0], page, 7)
				c.goDown(t, w, m, page, level)
				goOn(t, w, m, c.at(page, level))
				f := failed(level-1, api.ErrForm)
				path := append(c[:4-level:4-level], frame)
				goEnd(t, w, m, place(frame, page, level-1), f, path...)
				if all := All(m, c[0], page, 7); all != f {
					t.Fatalf("All = %v, want %v", all, f)
				}
			}
		}
	}
}

// TestLastWord: the last word of memory is loaded, the one behind it is not.
func TestLastWord(t *testing.T) {
	c := chain{0, 1, 2, 3}
	const page = 0x1234
	for level := range 4 {
		word := table(9)
		f, path := failed(level-1, api.ErrForm), append(c[:4-level:4-level], 9)
		if level == 0 {
			word, f, path = small(9, 1), found(9, 1, 0), c[:]
		}
		all := c.down(t, page, level, word)
		for there := 1; there <= c.at(page, level)+1; there++ {
			m := made(t, there)
			for at, word := range all.Words(0, there) {
				lay(t, m, at, word)
			}
			wantF, wantP := f, path
			for above := 3; above >= level; above-- {
				if c.at(page, above) >= there {
					wantF, wantP = failed(above, api.ErrForm), c[:4-above]
					break
				}
			}
			w := begun(t, 0, page, 0)
			for range 4 {
				w.Step(m)
			}
			wantStill(t, w, m, wantF, wantP...)
			if all := All(m, 0, page, 0); all != wantF {
				t.Fatalf("%d words: All = %v, want %v", there, all, wantF)
			}
		}
	}
}

func TestRootBehindTheLastWord(t *testing.T) {
	for _, root := range []int{1, 2, 4095} {
		m := made(t, 16)
		for _, page := range somePages() {
			goEnd(t, begun(t, root, page, 0), m, place(root, page, 3), failed(3, api.ErrForm), root)
		}
	}
}

// TestGreatestFrames: tables and words at the end of the greatest memory.
func TestGreatestFrames(t *testing.T) {
	c := chain{4095, 4094, 4093, 4092}
	for _, page := range []int{0, 0x1234, 65535} {
		c.wantEnd(t, page, 0, 7, small(4095, 7), found(4095, 7, 0))
	}
}

// TestNoMemory: words that are nil, or that New did not give, from the beginning or in the middle.
func TestNoMemory(t *testing.T) {
	everywhere(func(c chain, page, level, want int) {
		for _, none := range []*mem.Mem{nil, {}} {
			m := c.down(t, page, level, small(5, 7))
			w := begun(t, c[0], page, want)
			c.goDown(t, w, m, page, level)
			was := countsOf(m)
			if !w.Step(none) {
				t.Fatalf("level %d: Step = no", level)
			}
			wantLoads(t, m, was, 0)
			wantStill(t, w, m, failed(level, api.ErrForm), c[:4-level]...)
			if f := All(none, c[0], page, want); f != failed(3, api.ErrForm) {
				t.Fatalf("All = %v", f)
			}
		}
	})
}

// TestOtherMemory: each step loads from the memory that it's handed.
func TestOtherMemory(t *testing.T) {
	c := chain{2, 5, 0, 1}
	m := c.down(t, 0x1234, 0, small(5, 1))
	n := c.down(t, 0x1234, 1, large(32, 2))
	w := begun(t, c[0], 0x1234, 0)
	c.goDown(t, w, m, 0x1234, 1)
	goEnd(t, w, n, c.at(0x1234, 1), found(36, 2, 1), c[:3]...)
}

// Words that change between two steps.

// TestWordThatChangesAhead: what is loaded is what stands there at that step.
func TestWordThatChangesAhead(t *testing.T) {
	everywhere(func(c chain, page, level, want int) {
		for _, is := range []struct {
			word uint64
			f    Found
		}{{0, failed(level, api.ErrNone)}, {wrong, failed(level, api.ErrForm)}} {
			m := c.down(t, page, 0, small(5, 7))
			w := begun(t, c[0], page, want)
			c.goDown(t, w, m, page, level)
			lay(t, m, c.at(page, level), is.word)
			goEnd(t, w, m, c.at(page, level), is.f, c[:4-level]...)
		}
	})
}

// TestWordThatChangesBehind: what was loaded isn't loaded again, not even by Next.
func TestWordThatChangesBehind(t *testing.T) {
	everywhere(func(c chain, page, level, want int) {
		for _, word := range []uint64{0, wrong, table(5), small(6, 1)} {
			m := c.down(t, page, 0, small(5, 7))
			w := begun(t, c[0], page, want)
			c.goDown(t, w, m, page, level)
			if level > 0 {
				goOn(t, w, m, c.at(page, level))
				lay(t, m, c.at(page, level), word)
				for below := level - 1; below > 0; below-- {
					goOn(t, w, m, c.at(page, below))
				}
			}
			goEnd(t, w, m, c.at(page, 0), found(5, 7, 0), c[:]...)
			lay(t, m, c.at(page, 0), word)
			wantStill(t, w, m, found(5, 7, 0), c[:]...)
		}
	})
}

// TestTableThatMoves: a walker that was led to a table goes on there, also when the entry that led to it leads elsewhere since.
func TestTableThatMoves(t *testing.T) {
	c := chain{0, 1, 2, 3}
	const page = 0x1234
	for level := 3; level > 0; level-- {
		m := made(t, 16*16)
		for above := 3; above > 0; above-- {
			lay(t, m, c.at(page, above), table(4-above))
			lay(t, m, place(11+3-above, page, above), table(11+4-above))
		}
		lay(t, m, c.at(page, 0), small(5, 1))
		lay(t, m, place(14, page, 0), small(6, 2))
		w := begun(t, 0, page, 0)
		c.goDown(t, w, m, page, level-1)
		lay(t, m, c.at(page, level), table(11+4-level))
		for below := level - 1; below > 0; below-- {
			goOn(t, w, m, c.at(page, below))
		}
		goEnd(t, w, m, c.at(page, 0), found(5, 1, 0), c[:]...)
		if f := All(m, 0, page, 0); f != found(6, 2, 0) {
			t.Errorf("level %d: %v", level, f)
		}
	}
}
