package npt

import (
	"testing"

	"matryoshka/api"
	"matryoshka/desc"
)

// P13.2: Map, Large.

func TestWhatMapLays(t *testing.T) {
	w := begin(t, 12, 192)
	w.hold(0, 3, 6)
	g := w.open(5)
	g.wantMap(0xabcd, 77, 5, api.OK)
	g.wantTables(1, 2, 4, 5)
	w.wantWord(1, 0xa, 2*4096+1)
	w.wantWord(2, 0xb, 4*4096+1)
	w.wantWord(4, 0xc, 5*4096+1)
	w.wantWord(5, 0xd, 77*4096+5*2+1)
	for _, f := range []int{1, 2, 4, 5} {
		if d, _ := w.p.Of(f); d != (desc.Desc{Kind: desc.Table, Owner: 5}) {
			t.Error(f, d)
		}
		others := 0
		for _, word := range w.m.Words(16*f, 16) {
			if word == 0 {
				others++
			}
		}
		if others != 15 {
			t.Errorf("the frame %d has %d words that are 0", f, others)
		}
	}
	g.wantMap(0xabc0, 0, 7, api.OK)
	w.wantWord(5, 0, 7*2+1)
	g.wantMap(0xab00, 4095, 2, api.OK)
	w.wantWord(4, 0, 7*4096+1)
	w.wantWord(7, 0, 4095*4096+2*2+1)
	g.wantTables(1, 2, 4, 5, 7)
}

func TestWhatLargeLays(t *testing.T) {
	w := begin(t, 12, 192)
	w.hold(0, 3)
	g := w.open(5)
	g.wantLarge(0xabc0, 4080, 6, api.OK)
	g.wantTables(1, 2, 4)
	w.wantWord(1, 0xa, 2*4096+1)
	w.wantWord(2, 0xb, 4*4096+1)
	w.wantWord(4, 0xc, 4080*4096+16+6*2+1)
	g.wantLarge(0xab00, 0, 1, api.OK)
	w.wantWord(4, 0, 16+2+1)
	g.wantTables(1, 2, 4)
}

// TestFirstAndLastPages: each page that there is can be mapped, to each frame that there is.
func TestFirstAndLastPages(t *testing.T) {
	for _, page := range []int{0, 1, 15, 16, 255, 256, 4095, 4096, 0x1234, 0xfff0, 65534, 65535} {
		for _, frame := range []int{0, 1, 15, 16, 4080, 4094, 4095} {
			for rights := 1; rights <= 7; rights++ {
				g := begin(t, 4, 64).open(1)
				g.wantMap(page, frame, rights, api.OK)
				g.wantQuery(page, frame, rights, api.OK)
				if page%16+frame%16 > 0 {
					continue
				}
				g = begin(t, 3, 48).open(1)
				g.wantLarge(page, frame, rights, api.OK)
				g.wantQuery(page, frame, rights, api.OK)
				g.wantQuery(page+15, frame+15, rights, api.OK)
			}
		}
	}
}

func TestPagesAndFramesThatAreNone(t *testing.T) {
	g := begin(t, 8, 128).open(2)
	for _, page := range noPages() {
		g.wantMap(page, 0, 1, api.ErrRange)
		g.wantLarge(page, 0, 1, api.ErrRange)
	}
	for _, frame := range noFrames() {
		g.wantMap(0, frame, 1, api.ErrRange)
		g.wantLarge(0, frame, 1, api.ErrRange)
	}
	for _, rights := range noRights() {
		g.wantMap(0, 0, rights, api.ErrRight)
		g.wantLarge(0, 0, rights, api.ErrRight)
	}
	for i := 1; i < 16; i++ {
		g.wantLarge(i, 0, 1, api.ErrAlign)
		g.wantLarge(0x40+i, 0, 1, api.ErrAlign)
		g.wantLarge(0, i, 1, api.ErrAlign)
		g.wantLarge(0, 4080+i, 1, api.ErrAlign)
	}
	g.wantLarge(8, 8, 1, api.ErrAlign)
}

// mixed has a large entry for the page 0x20, and entries for 0x40 and 0x4f; 0x50 wants a table, 0x100 two, 0x1000 three.
func mixed(t *testing.T, free int) *guest {
	t.Helper()
	g := begin(t, 9, 144).open(2)
	g.wantLarge(0x20, 32, 3, api.OK)
	g.wantMap(0x40, 1, 3, api.OK)
	g.wantMap(0x4f, 2, 3, api.OK)
	g.leave(free)
	return g
}

// TestWhichErrorIsTold: in the chapter's order, where several hold.
func TestWhichErrorIsTold(t *testing.T) {
	for free := range 4 {
		g := mixed(t, free)
		large := func(page, frame, rights int, e api.Errno) {
			t.Helper()
			g.wantLarge(page, frame, rights, e)
		}
		for _, page := range []int{0x20, 0x25, 0x40, 0x1000, 8} {
			g.wantMap(page, -1, 0, api.ErrRange)
			large(page, 4096, 8, api.ErrRange)
			g.wantMap(page, 1, 0, api.ErrRight)
			large(page, 1, 8, api.ErrRight)
			large(page, 1, 1, api.ErrAlign)
		}
		g.wantMap(-1, -1, 0, api.ErrRange)
		large(65536, 1, 0, api.ErrRange)
		large(65537, 16, 1, api.ErrRange)
		large(0x21, 16, 1, api.ErrAlign)
		large(0x1001, 16, 1, api.ErrAlign)
		large(0x20, 16, 1, api.ErrTwice)
		large(0x40, 16, 1, api.ErrTwice)
		g.wantMap(0x2f, 16, 1, api.ErrTwice)
		g.wantMap(0x40, 16, 1, api.ErrTwice)
	}
}

// TestErrorsOfAll: all that may hold with all else, held against the order in which the chapter names them.
func TestErrorsOfAll(t *testing.T) {
	pages := []int{-1, 65536, least, greatest, 0x20, 0x25, 0x2f, 0x40, 0x45, 0x4f, 0x50, 0x51, 0x100, 0x101, 0x1000, 0xffff, 0xfff0}
	frames := []int{-1, 4096, least, greatest, 0, 8, 16, 4080, 4095}
	for free := range 4 {
		for _, page := range pages {
			for _, frame := range frames {
				g := mixed(t, free)
				for _, rights := range []int{0, 8, -1, least, greatest, 1} {
					g.Map(page, frame, rights)
				}
				g = mixed(t, free)
				for _, rights := range []int{0, 8, -1, least, greatest, 7} {
					g.Large(page, frame, rights)
				}
			}
		}
	}
}

func TestMapTwice(t *testing.T) {
	g := begin(t, 12, 192).open(2)
	g.wantMap(0x123, 5, 3, api.OK)
	g.wantMap(0x123, 5, 3, api.ErrTwice)
	g.wantMap(0x123, 6, 1, api.ErrTwice)
	g.wantMap(0x122, 5, 3, api.OK)
	g.wantMap(0x124, 5, 3, api.OK)
	g.wantLarge(0x130, 16, 3, api.OK)
	for i := range 16 {
		g.wantMap(0x130+i, 5, 3, api.ErrTwice)
	}
	g.wantMap(0x12f, 5, 3, api.OK)
	g.wantMap(0x140, 5, 3, api.OK)
	g.wantLarge(0x130, 16, 3, api.ErrTwice)
	g.wantLarge(0x130, 32, 1, api.ErrTwice)
}

// TestLargeWhereOnePageIsMapped: whichever of its sixteen.
func TestLargeWhereOnePageIsMapped(t *testing.T) {
	for i := range 16 {
		g := begin(t, 12, 192).open(2)
		g.wantMap(0x40+i, 5, 3, api.OK)
		g.wantLarge(0x40, 16, 1, api.ErrTwice)
		g.wantLarge(0x30, 16, 1, api.OK)
		g.wantLarge(0x50, 16, 1, api.OK)
		g.wantUnmap(0x40+i, 5, api.OK)
		g.wantLarge(0x40, 16, 1, api.OK)
	}
}

// TestLargeWhereOneWasSplit: a table stands there, with any number of pages, till the last one is unmapped.
func TestLargeWhereOneWasSplit(t *testing.T) {
	g := begin(t, 12, 192).open(2)
	g.wantLarge(0x40, 16, 1, api.OK)
	for i := range 16 {
		g.wantUnmap(0x40+i, 16+i, api.OK)
		if i < 15 {
			g.wantLarge(0x40, 32, 1, api.ErrTwice)
			g.wantMap(0x40+i+1, 32, 1, api.ErrTwice)
			g.wantQuery(0x40+i, 0, 0, api.ErrNone)
		}
	}
	g.wantLarge(0x40, 32, 1, api.OK)
}

// wanting is a page, and a page of a Large, that want so many tables, where 0 is mapped and the way to 0x100 has one table.
type wanting struct {
	page, tables int
}

func TestJustAsManyFrames(t *testing.T) {
	maps := []wanting{{1, 0}, {15, 0}, {0x10, 1}, {0xff, 1}, {0x100, 2}, {0xfff, 2}, {0x1000, 3}, {65535, 3}}
	larges := []wanting{{0x10, 0}, {0xf0, 0}, {0x100, 1}, {0xff0, 1}, {0x1000, 2}, {0xfff0, 2}}
	for free := range 5 {
		start := func() *guest {
			g := begin(t, 12, 192).open(2)
			g.wantMap(0, 5, 3, api.OK)
			g.leave(free)
			return g
		}
		e := func(c wanting) api.Errno {
			if free < c.tables {
				return api.ErrFrame
			}
			return api.OK
		}
		for _, c := range maps {
			start().wantMap(c.page, 4095, 1, e(c))
		}
		for _, c := range larges {
			start().wantLarge(c.page, 4080, 1, e(c))
		}
	}
}

// TestOnlyFreeFramesCount: not cached or retired ones.
func TestOnlyFreeFramesCount(t *testing.T) {
	w := begin(t, 7, 112)
	w.turn(2, desc.Cached, 0)
	w.hold(3)
	w.turn(3, desc.Retired, 0)
	w.hold(5)
	g := w.open(2)
	g.wantLarge(0x40, 16, 1, api.OK) // the frames 1 and 4
	g.wantTables(0, 1, 4)
	g.wantMap(0x100, 1, 1, api.ErrFrame) // just the frame 6 is free
	w.turn(3, desc.Free, 0)
	g.wantMap(0x100, 1, 1, api.OK)
	g.wantTables(0, 1, 3, 4, 6)
	g.wantMap(0x50, 1, 1, api.ErrFrame)
	w.turn(2, desc.Free, 0)
	g.wantMap(0x50, 1, 1, api.OK)
}

// TestFramesOfTables: that a page is mapped to a table's frame changes nothing for the tables.
func TestFramesOfTables(t *testing.T) {
	g := begin(t, 8, 128).open(2)
	for page := range 8 {
		g.wantMap(page, page, 7, api.OK)
	}
	g.wantLarge(0x10, 0, 7, api.OK)
	g.wantUnmap(0, 0, api.OK)
	g.wantUnmap(3, 3, api.OK)
	g.wantQuery(1, 1, 7, api.OK)
	g.wantTables(0, 1, 2, 3)
}
