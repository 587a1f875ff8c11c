package tlb

import (
	"fmt"
	"slices"
	"testing"

	"matryoshka/api"
)

// P14.1: Fill.

// rightLines is lines at both ends of each range, and beside them.
func rightLines() []Line {
	var l []Line
	for _, tag := range []int{1, 2, 15, 16} {
		for _, page := range []int{0, 1, 65534, 65535} {
			for _, frame := range []int{0, 1, 4094, 4095} {
				for rights := 1; rights <= 7; rights++ {
					l = append(l, Line{tag, page, frame, rights})
				}
			}
		}
	}
	return l
}

// wrongLines is lines that can't be, by one of their parts or by several.
func wrongLines() []Line {
	l := []Line{{}, {0, -1, -1, 0}, {17, 65536, 4096, 8}, {0, 65536, 0, 1}, {1, 0, -1, 8}}
	for _, n := range append(noNumber(), 0, 17, 18, 256, 257) {
		l = append(l, Line{n, 5, 5, 5}, Line{n, 65535, 4095, 7})
	}
	for _, n := range noNumber() {
		l = append(l, Line{1, n, 5, 5}, Line{16, n, 0, 1})
	}
	for _, n := range append(noNumber(), 4096, 4097, 8192, 65535) {
		l = append(l, Line{1, 5, n, 5}, Line{16, 0, n, 1})
	}
	for _, n := range append(noNumber(), 0, 8, 9, 15, 16, 17, 256, 257) {
		l = append(l, Line{1, 5, 5, n}, Line{16, 65535, 4095, n})
	}
	return l
}

func TestFillOfRightLines(t *testing.T) {
	for _, l := range rightLines() {
		x := with(t, 1, l)
		wantLines(t, x, l)
		wantLook(t, x, l.Tag, l.Page, l.Rights, l.Frame, api.OK)
		x = with(t, 2, Line{3, 3, 3, 3}, l)
		wantLines(t, x, Line{3, 3, 3, 3}, l)
	}
}

// TestFillOfWrongLines changes nothing, whether or not there would be a line that goes.
func TestFillOfWrongLines(t *testing.T) {
	stood := []Line{{1, 5, 5, 5}, {16, 65535, 4095, 7}, {16, 0, 0, 1}}
	for size := 1; size <= 4; size++ {
		for count := 0; count <= min(size, len(stood)); count++ {
			x := with(t, size, stood[:count]...)
			for _, l := range wrongLines() {
				wantErr(t, fmt.Sprint("Fill of ", l), x.Fill(l), api.ErrArg)
				wantLines(t, x, stood[:count]...)
			}
		}
	}
}

func TestFillOfOneThatIsThereAlready(t *testing.T) {
	for _, size := range sizes() {
		for _, count := range []int{1, 2, 3, size - 1, size} {
			for _, at := range []int{0, 1, count / 2, count - 1} {
				if count < 1 || count > size || at >= count {
					continue
				}
				l := row(count)
				x := with(t, size, l...)
				again := Line{l[at].Tag, l[at].Page, 77, 2}
				fill(t, x, again)
				wantLines(t, x, append(but(l, at), again)...)
				wantLook(t, x, again.Tag, again.Page, 2, 77, api.OK)
				wantLook(t, x, again.Tag, again.Page, 5, 0, api.ErrRight)
			}
		}
	}
}

// TestFillOfTheSameLine: it's the last one then, and nothing else goes.
func TestFillOfTheSameLine(t *testing.T) {
	l := row(5)
	for _, size := range []int{5, 6} {
		x := with(t, size, l...)
		for turn := range 20 {
			fill(t, x, l[turn%5])
			wantLines(t, x, append(slices.Clone(l[turn%5+1:]), l[:turn%5+1]...)...)
		}
	}
}

// TestFillTillTheFirstGoes: as many as there may be, and each one more takes the first one's room.
func TestFillTillTheFirstGoes(t *testing.T) {
	l := row(200)
	for _, size := range sizes() {
		x := made(t, size)
		for i, one := range l {
			fill(t, x, one)
			wantLines(t, x, l[max(0, i+1-size):i+1]...)
			if i >= size {
				gone := l[i-size]
				wantLook(t, x, gone.Tag, gone.Page, 0, 0, api.ErrNone)
			}
		}
	}
}

// TestFillTellsTagsAndPagesApart: a line of the same tag, of the same page, or of the same frame stays.
func TestFillTellsTagsAndPagesApart(t *testing.T) {
	l := []Line{{1, 5, 9, 1}, {5, 1, 9, 1}, {1, 1, 9, 1}, {5, 5, 9, 1}, {2, 5, 9, 1}, {1, 6, 9, 1}, {9, 1, 5, 1}, {16, 5, 9, 1}, {1, 65535, 9, 1}}
	x := with(t, len(l), l...)
	wantLines(t, x, l...)
}

// P14.3: Flush, Forget, Drop.

// taking is a call that takes lines away, and which lines go by it.
type taking struct {
	what  string
	takes func(*Tlb) int
	goes  func(Line) bool
}

func flush(tag, page int) taking {
	return taking{
		fmt.Sprintf("Flush(%d, %d)", tag, page),
		func(x *Tlb) int {
			if x.Flush(tag, page) {
				return 1
			}
			return 0
		},
		func(l Line) bool { return l.Tag == tag && l.Page == page },
	}
}

func forget(tag int) taking {
	return taking{fmt.Sprintf("Forget(%d)", tag), func(x *Tlb) int { return x.Forget(tag) }, func(l Line) bool { return l.Tag == tag }}
}

func drop(frame int) taking {
	return taking{fmt.Sprintf("Drop(%d)", frame), func(x *Tlb) int { return x.Drop(frame) }, func(l Line) bool { return l.Frame == frame }}
}

// wantTakes takes twice: the second time there is nothing any more. The others stay in their order.
func wantTakes(t *testing.T, x *Tlb, does taking) {
	t.Helper()
	var stay []Line
	gone := 0
	for _, l := range x.Lines() {
		if does.goes(l) {
			gone++
		} else {
			stay = append(stay, l)
		}
	}
	for range 3 {
		if got := does.takes(x); got != gone {
			t.Fatalf("%s took %d, want %d; the lines are %v", does.what, got, gone, x.Lines())
		}
		wantLines(t, x, stay...)
		gone = 0
	}
}

func TestFlushOfEachLine(t *testing.T) {
	for _, size := range sizes() {
		for _, count := range []int{1, size / 2, size} {
			l := row(count)
			for at, one := range l {
				x := with(t, size, l...)
				wantTakes(t, x, flush(one.Tag, one.Page))
				wantLook(t, x, one.Tag, one.Page, 0, 0, api.ErrNone)
				wantLines(t, x, but(l, at)...)
				fill(t, x, one)
				wantLook(t, x, one.Tag, one.Page, 0, one.Frame, api.OK)
				wantLines(t, x, append(but(l, at), one)...)
			}
		}
	}
}

func TestFlushWhereNoLineIs(t *testing.T) {
	l := []Line{{1, 5, 9, 7}, {5, 1, 8, 7}, {16, 65535, 7, 7}}
	x := with(t, 3, l...)
	for _, at := range [][2]int{{1, 1}, {5, 5}, {1, 4}, {2, 5}, {0, 5}, {1, -5}, {-1, 5}, {9, 7}, {1, 9}, {17, 65535}, {16, 65536}} {
		wantTakes(t, x, flush(at[0], at[1]))
	}
	for _, n := range noNumber() {
		wantTakes(t, x, flush(n, 5))
		wantTakes(t, x, flush(1, n))
		wantTakes(t, x, flush(n, n))
	}
	wantLines(t, x, l...)
}

// mixed is lines that have nothing alike but one part, which is 9 in those that the bits of a number tell.
func mixed(count, bits int, part func(*Line) *int) []Line {
	l := make([]Line, count)
	for i := range l {
		l[i] = Line{Tag: 1 + i, Page: 100 - i, Frame: 50 + i, Rights: 7}
		if bits>>i&1 == 1 {
			*part(&l[i]) = 9
		}
	}
	return l
}

// TestForgetAndDropOfEachSubset: none, one, some and all of few lines.
func TestForgetAndDropOfEachSubset(t *testing.T) {
	for count := range 7 {
		for bits := range 1 << count {
			for _, size := range []int{6, 7} {
				byTag := mixed(count, bits, func(l *Line) *int { return &l.Tag })
				wantTakes(t, with(t, size, byTag...), forget(9))
				wantTakes(t, with(t, size, byTag...), drop(9))
				byFrame := mixed(count, bits, func(l *Line) *int { return &l.Frame })
				wantTakes(t, with(t, size, byFrame...), drop(9))
				wantTakes(t, with(t, size, byFrame...), forget(9))
			}
		}
	}
}

// TestForgetAndDropLeaveRoom: behind them just as many lines may come, before the first one goes.
func TestForgetAndDropLeaveRoom(t *testing.T) {
	for _, does := range []taking{forget(2), drop(4094), flush(2, 1000)} {
		for _, size := range []int{8, 9, 64} {
			x := with(t, size, row(size)...)
			wantTakes(t, x, does)
			stay := x.Lines()
			for room := size - len(stay); room > 0; room-- {
				l := Line{16, room, room, 1}
				fill(t, x, l)
				stay = append(stay, l)
				wantLines(t, x, stay...)
			}
			fill(t, x, Line{15, 1, 1, 1})
			wantLines(t, x, append(stay[1:], Line{15, 1, 1, 1})...)
		}
	}
}

func TestForgetAndDropOfNumbersThatCantBe(t *testing.T) {
	l := row(64)
	x := with(t, 64, l...)
	for _, n := range noNumber() {
		wantTakes(t, x, forget(n))
		wantTakes(t, x, drop(n))
	}
	for _, n := range []int{0, 5, 16, 17} {
		wantTakes(t, x, forget(n))
	}
	for _, n := range []int{0, 1, 4092, 4096} {
		wantTakes(t, x, drop(n))
	}
	wantLines(t, x, l...)
}

func TestForgetAndDropOfAll(t *testing.T) {
	for _, size := range sizes() {
		l := make([]Line, size)
		for i := range l {
			l[i] = Line{16, i, 0, 1}
		}
		for _, does := range []taking{forget(16), drop(0)} {
			x := with(t, size, l...)
			wantTakes(t, x, does)
			wantLines(t, x)
			fill(t, x, l...)
			wantLines(t, x, l...)
		}
	}
}
