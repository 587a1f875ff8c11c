package tlb

import (
	"fmt"
	"math"
	"slices"
	"testing"

	"matryoshka/api"
)

const (
	least    = math.MinInt
	greatest = math.MaxInt
)

// sizes is all sizes that may be.
func sizes() []int {
	var l []int
	for size := 1; size <= 64; size++ {
		l = append(l, size)
	}
	return l
}

// noNumber is numbers that are no tag, page, frame, rights or size, of which some are right ones modulo a power of two.
func noNumber() []int {
	return []int{-1, -2, -5, -16, -4096, -65536, 1 << 16, 1<<16 + 5, 1<<17 + 1, 1<<32 + 1, 1<<32 + 5, -1<<32 + 5, 1<<62 + 1, least, least + 1, least + 5, greatest - 2, greatest}
}

func made(t *testing.T, size int) *Tlb {
	t.Helper()
	x, fault := New(size)
	if fault != api.OK || x == nil {
		t.Fatalf("New(%d) = %v, %d", size, x, fault)
	}
	return x
}

// with is one of a size, in which lines were filled.
func with(t *testing.T, size int, l ...Line) *Tlb {
	t.Helper()
	x := made(t, size)
	fill(t, x, l...)
	return x
}

func fill(t *testing.T, x *Tlb, l ...Line) {
	t.Helper()
	for _, one := range l {
		wantErr(t, fmt.Sprint("Fill of ", one), x.Fill(one), api.OK)
	}
}

func wantErr(t *testing.T, what string, got, want api.Errno) {
	t.Helper()
	if got != want {
		t.Fatalf("%s: %d, want %d", what, got, want)
	}
}

func wantLines(t *testing.T, x *Tlb, want ...Line) {
	t.Helper()
	if got := x.Lines(); !slices.Equal(got, want) {
		t.Fatalf("the lines are %v, want %v", got, want)
	}
}

func wantLook(t *testing.T, x *Tlb, tag, page, want, frame int, fault api.Errno) {
	t.Helper()
	if got, e := x.Look(tag, page, want); got != frame || e != fault {
		t.Fatalf("Look(%d, %d, %d) = %d, %d, want %d, %d; the lines are %v", tag, page, want, got, e, frame, fault, x.Lines())
	}
}

// row is so many lines of all sorts: no two of a tag and a page, and several of each tag, page and frame.
func row(count int) []Line {
	l := make([]Line, count)
	for i := range l {
		l[i] = Line{Tag: 1 + i%4, Page: 1000 * (i / 4), Frame: 4095 - i%3, Rights: 1 + i%7}
	}
	return l
}

// but is a list without the one at a place.
func but(l []Line, at int) []Line { return slices.Delete(slices.Clone(l), at, at+1) }

// Of nil, and of one that New did not give.

func TestNoTlb(t *testing.T) {
	for _, x := range []*Tlb{nil, {}, new(Tlb)} {
		for range 3 {
			wantNothing(t, x)
		}
	}
}

func wantNothing(t *testing.T, x *Tlb) {
	t.Helper()
	for _, l := range []Line{{}, {Tag: 1, Rights: 1}, {Tag: 16, Page: 65535, Frame: 4095, Rights: 7}, {Tag: 17, Rights: 1}, {Tag: least, Page: least, Frame: least, Rights: least}} {
		wantErr(t, fmt.Sprint("Fill of ", l), x.Fill(l), api.ErrNil)
	}
	for _, n := range append(noNumber(), 0, 1, 5, 8, 16, 17, 4095) {
		wantLook(t, x, n, n, n, 0, api.ErrNil)
		wantLook(t, x, 1, 0, n, 0, api.ErrNil)
		if x.Flush(n, n) || x.Flush(1, 0) || x.Forget(n) != 0 || x.Drop(n) != 0 {
			t.Error(x.Flush(n, n), x.Flush(1, 0), x.Forget(n), x.Drop(n))
		}
	}
	wantLines(t, x)
	if x.Copy() != nil {
		t.Error(x.Copy())
	}
}

// P14.1: New.

func TestNew(t *testing.T) {
	for _, size := range sizes() {
		x := made(t, size)
		wantLines(t, x)
		for _, tag := range []int{0, 1, 16} {
			wantLook(t, x, tag, 0, 0, 0, api.ErrNone)
			if x.Flush(tag, 0) || x.Forget(tag) != 0 || x.Drop(tag) != 0 {
				t.Error("there are no lines")
			}
		}
		wantLines(t, x)
	}
}

func TestNewOfWrongNumbers(t *testing.T) {
	for _, n := range append(noNumber(), 0, 65, 66, 128, 129, 256, 257, 4096) {
		if x, fault := New(n); x != nil || fault != api.ErrArg {
			t.Errorf("New(%d) = %v, %d", n, x, fault)
		}
	}
}

func TestNewOnesAreApart(t *testing.T) {
	a, b := made(t, 2), made(t, 2)
	fill(t, a, row(2)...)
	wantLines(t, b)
	fill(t, b, row(3)[2])
	wantLines(t, a, row(2)...)
}

// P14.2: Look.

func TestLookWithEachWant(t *testing.T) {
	for rights := 1; rights <= 7; rights++ {
		x := with(t, 4, Line{2, 5, 1, 7}, Line{3, 5, 4095, rights}, Line{3, 6, 2, 7}, Line{5, 3, 3, 7})
		for want := range 8 {
			// Each right that is wanted has to be there.
			missing := false
			for _, right := range []int{api.Read, api.Write, api.Exec} {
				missing = missing || want/right%2 == 1 && rights/right%2 == 0
			}
			if missing {
				wantLook(t, x, 3, 5, want, 0, api.ErrRight)
			} else {
				wantLook(t, x, 3, 5, want, 4095, api.OK)
			}
			wantLook(t, x, 2, 5, want, 1, api.OK)
			wantLook(t, x, 3, 6, want, 2, api.OK)
			wantLook(t, x, 5, 3, want, 3, api.OK)
		}
	}
}

func TestLookWithWantsThatCantBe(t *testing.T) {
	for rights := 1; rights <= 7; rights++ {
		x := with(t, 1, Line{1, 5, 9, rights})
		for _, want := range append(noNumber(), 8, 9, 15, 16, 7+8, rights+8, rights-8, rights+1<<32, rights+least, -rights) {
			wantLook(t, x, 1, 5, want, 0, api.ErrRight)
			wantLook(t, x, 1, 6, want, 0, api.ErrNone)
			wantLook(t, x, 2, 5, want, 0, api.ErrNone)
		}
	}
}

// TestLookWhereNoLineIs: a line is of its tag and of its page, and of no others; want is not looked at there.
func TestLookWhereNoLineIs(t *testing.T) {
	x := with(t, 4, Line{1, 5, 9, 7}, Line{5, 1, 8, 7}, Line{16, 65535, 7, 7})
	for _, want := range []int{-1, 0, 1, 7, 8, least, greatest} {
		for _, at := range [][2]int{{1, 1}, {5, 5}, {1, 4}, {1, 6}, {2, 5}, {0, 5}, {-1, 5}, {1, -5}, {0, 0}, {16, 65534}, {15, 65535}, {16, 65536}, {17, 65535}, {9, 7}, {0, 65536 + 5}, {2, 5 - 65536}} {
			wantLook(t, x, at[0], at[1], want, 0, api.ErrNone)
		}
		for _, n := range noNumber() {
			wantLook(t, x, n, 5, want, 0, api.ErrNone)
			wantLook(t, x, 1, n, want, 0, api.ErrNone)
			wantLook(t, x, n, n, want, 0, api.ErrNone)
		}
	}
}

// TestLookFindsEachLine, in whichever place it is, and none changes its place: not even so far that another one would go than the first.
func TestLookFindsEachLine(t *testing.T) {
	for _, size := range sizes() {
		l := row(size)
		x := with(t, size, l...)
		for _, one := range l {
			for _, want := range []int{one.Rights, 0, one.Rights, 8, -1} {
				frame, fault := x.Look(one.Tag, one.Page, want)
				if want >= 0 && want < 8 && (frame != one.Frame || fault != api.OK) || (want < 0 || want >= 8) && (frame != 0 || fault != api.ErrRight) {
					t.Fatalf("Look of %v for %d = %d, %d", one, want, frame, fault)
				}
			}
			wantLook(t, x, one.Tag, 65535, 0, 0, api.ErrNone)
			wantLines(t, x, l...)
		}
		wantLook(t, x, l[0].Tag, l[0].Page, 0, l[0].Frame, api.OK)
		last := Line{16, 1, 1, 1}
		fill(t, x, last)
		wantLines(t, x, append(l[1:], last)...)
	}
}

// The example of the chapter.

func TestExample(t *testing.T) {
	x := with(t, 1, Line{Tag: 1, Page: 5, Frame: 9, Rights: 1})
	wantLook(t, x, 1, 5, 1, 9, api.OK)
	fill(t, x, Line{Tag: 1, Page: 6, Frame: 8, Rights: 1})
	wantLook(t, x, 1, 5, 1, 0, api.ErrNone)
	wantLook(t, x, 1, 6, 1, 8, api.OK)
}
