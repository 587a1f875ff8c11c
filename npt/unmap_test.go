package npt

import (
	"testing"

	"matryoshka/api"
)

// P13.3 and P13.4: Unmap, Protect, Query.

func TestPagesThatAreNone(t *testing.T) {
	for _, free := range []int{0, 3} {
		g := mixed(t, free)
		for _, page := range noPages() {
			g.wantUnmap(page, 0, api.ErrRange)
			g.wantQuery(page, 0, 0, api.ErrRange)
			for _, rights := range append(noRights(), 1) {
				g.wantProtect(page, rights, api.ErrRange)
			}
		}
		for _, page := range []int{0x20, 0x40, 0x41, 0x100, 0x1000} {
			for _, rights := range noRights() {
				g.wantProtect(page, rights, api.ErrRight)
			}
		}
	}
}

func TestPagesThatAreNotMapped(t *testing.T) {
	for _, free := range []int{0, 3} {
		g := mixed(t, free)
		for _, page := range []int{0, 0x1f, 0x30, 0x3f, 0x41, 0x4e, 0x50, 0x100, 0x1000, 0xffff} {
			g.wantUnmap(page, 0, api.ErrNone)
			g.wantQuery(page, 0, 0, api.ErrNone)
			g.wantProtect(page, 1, api.ErrNone)
		}
	}
}

func TestNothingIsMappedAtFirst(t *testing.T) {
	g := begin(t, 8, 128).open(2)
	for _, page := range []int{0, 1, 15, 16, 0x1234, 65535} {
		g.wantUnmap(page, 0, api.ErrNone)
		g.wantQuery(page, 0, 0, api.ErrNone)
		g.wantProtect(page, 1, api.ErrNone)
	}
}

func TestQuery(t *testing.T) {
	g := mixed(t, 0)
	g.wantQuery(0x40, 1, 3, api.OK)
	g.wantQuery(0x4f, 2, 3, api.OK)
	for i := range 16 {
		g.wantQuery(0x20+i, 32+i, 3, api.OK)
	}
}

// TestThinOut: as many tables go as are empty, and none of those that still lead somewhere.
func TestThinOut(t *testing.T) {
	g := begin(t, 20, 320).open(6)
	g.wantMap(0x0000, 1, 1, api.OK) // the tables 1, 2, 3
	g.wantMap(0x0001, 2, 1, api.OK)
	g.wantMap(0x0010, 3, 1, api.OK) // 4
	g.wantMap(0x0100, 4, 1, api.OK) // 5, 6
	g.wantMap(0x1000, 5, 1, api.OK) // 7, 8, 9
	g.wantTables(0, 1, 2, 3, 4, 5, 6, 7, 8, 9)
	g.wantUnmap(0x0000, 1, api.OK)
	g.wantRetired(6)
	g.wantUnmap(0x0001, 2, api.OK)
	g.wantRetired(6, 3)
	g.wantWord(2, 0, 0)
	g.wantWord(2, 1, 4*4096+1)
	g.wantUnmap(0x0010, 3, api.OK)
	g.wantRetired(6, 2, 3, 4)
	g.wantWord(1, 0, 0)
	g.wantUnmap(0x1000, 5, api.OK)
	g.wantRetired(6, 2, 3, 4, 7, 8, 9)
	g.wantWord(0, 1, 0)
	g.wantTables(0, 1, 5, 6)
	g.wantUnmap(0x0100, 4, api.OK)
	g.wantTables(0)
	g.wantWord(0, 0, 0)
	g.wantUnmap(0x0100, 0, api.ErrNone)
}

// TestOneEntryLeft: a table stays with one entry, at whichever place.
func TestOneEntryLeft(t *testing.T) {
	for i := range 16 {
		for level := range 4 {
			step := []int{1, 16, 256, 4096}[level]
			g := begin(t, 60, 960).open(6)
			for j := range 16 {
				g.wantMap(j*step, j, 1, api.OK)
			}
			for j := range 16 {
				if j != i {
					g.wantUnmap(j*step, j, api.OK)
				}
			}
			g.wantQuery(i*step, i, 1, api.OK)
			if n := len(g.x.All()); n != 4 {
				t.Fatalf("%d tables", n)
			}
			g.wantUnmap(i*step, i, api.OK)
			g.wantTables(0)
		}
	}
}

// TestLargeEntryKeepsItsTable: it's an entry like others, for those beside it.
func TestLargeEntryKeepsItsTable(t *testing.T) {
	g := begin(t, 10, 160).open(6)
	g.wantLarge(0x20, 16, 5, api.OK)
	g.wantMap(0x30, 1, 1, api.OK)
	g.wantUnmap(0x30, 1, api.OK)
	g.wantTables(0, 1, 2)
	g.wantQuery(0x2f, 31, 5, api.OK)
}

func TestUnmapOfALargePage(t *testing.T) {
	for i := range 16 {
		g := begin(t, 10, 160).open(6)
		g.wantLarge(0x20, 4080, 5, api.OK)
		g.leave(1)
		g.wantUnmap(0x20+i, 4080+i, api.OK)
		g.wantTables(0, 1, 2, 3)
		g.wantWord(2, 2, 3*4096+1)
		for j := range 16 {
			if j == i {
				g.wantWord(3, j, 0)
				g.wantQuery(0x20+j, 0, 0, api.ErrNone)
				continue
			}
			g.wantWord(3, j, uint64(4080+j)*4096+5*2+1)
			g.wantQuery(0x20+j, 4080+j, 5, api.OK)
		}
		g.wantUnmap(0x20+i, 0, api.ErrNone)
		g.wantMap(0x20+i, 9, 1, api.OK)
	}
}

func TestProtectOfALargePage(t *testing.T) {
	for i := range 16 {
		g := begin(t, 10, 160).open(6)
		g.wantLarge(0x20, 0, 5, api.OK)
		g.leave(1)
		g.wantProtect(0x20+i, 2, api.OK)
		g.wantTables(0, 1, 2, 3)
		g.wantWord(2, 2, 3*4096+1)
		for j := range 16 {
			rights := 5
			if j == i {
				rights = 2
			}
			g.wantWord(3, j, uint64(j*4096+rights*2+1))
			g.wantQuery(0x20+j, j, rights, api.OK)
		}
		g.wantProtect(0x20+i, 5, api.OK)
		g.wantTables(0, 1, 2, 3)
	}
}

func TestSplitWithoutAFrame(t *testing.T) {
	g := begin(t, 10, 160).open(6)
	g.wantLarge(0x20, 16, 5, api.OK)
	g.leave(0)
	for i := range 16 {
		g.wantUnmap(0x20+i, 0, api.ErrFrame)
		for rights := 1; rights <= 7; rights++ {
			e := api.ErrFrame
			if rights == 5 {
				e = api.OK
			}
			g.wantProtect(0x20+i, rights, e)
			g.wantQuery(0x20+i, 16+i, 5, api.OK)
		}
	}
	g.wantTables(0, 1, 2)
}

func TestProtectWithTheRightsThatItHas(t *testing.T) {
	for _, free := range []int{0, 1, 3} {
		g := mixed(t, free)
		tables := g.x.All()
		for i := range 16 {
			g.wantProtect(0x20+i, 3, api.OK)
		}
		g.wantProtect(0x40, 3, api.OK)
		g.wantProtect(0x4f, 3, api.OK)
		g.wantTables(tables...)
	}
}

// TestProtectOfOnePage: it wants no frame, and changes no other page.
func TestProtectOfOnePage(t *testing.T) {
	g := mixed(t, 0)
	for was := 1; was <= 7; was++ {
		for rights := 1; rights <= 7; rights++ {
			g.wantProtect(0x40, was, api.OK)
			g.wantProtect(0x40, rights, api.OK)
			g.wantQuery(0x40, 1, rights, api.OK)
			g.wantQuery(0x4f, 2, 3, api.OK)
		}
	}
}
