package tlb

import (
	"fmt"
	"testing"

	"matryoshka/api"
)

// P14.4: Lines, Copy.

// spoil writes into a list, and into the room behind it.
func spoil(l []Line) {
	l = l[:cap(l)]
	for i := range l {
		l[i] = Line{3, 3, 3, 3}
	}
}

func TestLinesAreNewMemory(t *testing.T) {
	for _, size := range sizes() {
		for _, count := range []int{0, 1, size - 1, size} {
			l := row(count)
			x := with(t, size, l...)
			spoil(x.Lines())
			wantLines(t, x, l...)
			a, b := x.Lines(), x.Lines()
			spoil(a)
			for i := range b {
				if b[i] != l[i] {
					t.Fatal("two lists share memory")
				}
			}
			// What was told stays as it is, whatever is done.
			x.Forget(1)
			fill(t, x, Line{16, 1, 1, 1})
			for i := range b {
				if b[i] != l[i] {
					t.Fatal("a list that was told changes")
				}
			}
		}
	}
}

// TestLinesAreNewMemoryBehindEachCall: also where some went, so that there is room behind the others.
func TestLinesAreNewMemoryBehindEachCall(t *testing.T) {
	for what, does := range changes() {
		x := with(t, 8, row(8)...)
		does(x)
		want := x.Lines()
		got := x.Lines()
		spoil(got)
		wantLines(t, x, want...)
		if len(want) == 0 {
			t.Fatal(what, "takes all lines")
		}
		fill(t, x, Line{16, 1, 1, 1})
		for i := range got {
			if got[i] != (Line{3, 3, 3, 3}) {
				t.Fatal(what, "and Fill write into a list that was told")
			}
		}
	}
}

// changes is calls of each kind that change the lines of row(8).
func changes() map[string]func(*Tlb) {
	return map[string]func(*Tlb){
		"Fill of a new one":      func(x *Tlb) { x.Fill(Line{16, 7, 7, 7}) },
		"Fill of the first one":  func(x *Tlb) { x.Fill(Line{1, 0, 7, 7}) },
		"Fill of another one":    func(x *Tlb) { x.Fill(Line{3, 0, 7, 7}) },
		"Fill of the last one":   func(x *Tlb) { x.Fill(Line{4, 1000, 7, 7}) },
		"Flush of the first one": func(x *Tlb) { x.Flush(1, 0) },
		"Flush of another one":   func(x *Tlb) { x.Flush(3, 0) },
		"Flush of the last one":  func(x *Tlb) { x.Flush(4, 1000) },
		"Forget":                 func(x *Tlb) { x.Forget(2) },
		"Forget of the last one": func(x *Tlb) { x.Forget(4) },
		"Drop":                   func(x *Tlb) { x.Drop(4095) },
		"Drop of others":         func(x *Tlb) { x.Drop(4094) },
		"Fill, and Flush of it": func(x *Tlb) {
			x.Fill(Line{16, 7, 7, 7})
			x.Flush(16, 7)
		},
		"Flush, and Fill": func(x *Tlb) {
			x.Flush(4, 1000)
			x.Fill(Line{16, 7, 7, 7})
		},
	}
}

func TestCopyStandsThere(t *testing.T) {
	for _, size := range sizes() {
		for _, count := range []int{0, 1, size - 1, size} {
			l := row(count)
			x := with(t, size, l...)
			c := x.Copy()
			if c == x {
				t.Fatal("it is itself")
			}
			wantLines(t, c, l...)
			wantLines(t, c.Copy().Copy(), l...)
			// It's as large: so many more lines may come.
			for i := count; i <= size; i++ {
				wantLines(t, c, l...)
				next := Line{16, i, i, 1}
				fill(t, c, next)
				l = append(l, next)
			}
			wantLines(t, c, l[1:]...)
		}
	}
}

// TestCopyIsApart: of one that is full and one that has room; what is done with the first one changes no copy, and the other way round.
func TestCopyIsApart(t *testing.T) {
	for _, size := range []int{8, 9, 16, 64} {
		for what, does := range changes() {
			stood := row(8)
			x := with(t, size, stood...)
			a, b := x.Copy(), x.Copy()
			does(a)
			wantLines(t, x, stood...)
			wantLines(t, b, stood...)
			changed := a.Lines()
			does(x)
			wantLines(t, x, changed...)
			wantLines(t, a, changed...)
			wantLines(t, b, stood...)
			c := a.Copy()
			fill(t, a, Line{15, 1, 1, 1})
			fill(t, c, Line{15, 2, 2, 2})
			fill(t, x, Line{15, 3, 3, 3})
			for one, page := range map[*Tlb]int{a: 1, c: 2, x: 3} {
				wantLook(t, one, 15, page, page, page, api.OK)
				wantLook(t, one, 15, page%3+1, 0, 0, api.ErrNone)
			}
			wantLines(t, b, stood...)
			if fmt.Sprint(changed) == fmt.Sprint(stood) && what != "Fill, and Flush of it" {
				t.Fatal(what, "changes nothing")
			}
		}
	}
}

// TestCopiesGrowApart: each of them fills its own line behind the same ones, at each count of lines, so that none lies where another one's does.
func TestCopiesGrowApart(t *testing.T) {
	for count := range 64 {
		stood := row(count)
		x := with(t, 64, stood...)
		var copies []*Tlb
		for range 4 {
			copies = append(copies, x.Copy())
		}
		for i, c := range copies {
			fill(t, c, Line{16, i, i, 1})
		}
		fill(t, x, Line{15, 0, 0, 1})
		for i, c := range copies {
			wantLines(t, c, append(stood[:count:count], Line{16, i, i, 1})...)
		}
		wantLines(t, x, append(stood[:count:count], Line{15, 0, 0, 1})...)
	}
}
