package pte

import "testing"

func pages() []int {
	return []int{0, 1, 15, 16, 17, 255, 256, 257, 4095, 4096, 4097, 0xabcd, 65534, 65535}
}

func noPages() []int { return []int{-1, -16, 65536, 65537, 1 << 32, least, least + 1, greatest} }

func noLevels() []int { return []int{-1, -4, 4, 5, 16, 64, 1 << 32, least, greatest} }

func noFrames() []int { return []int{-1, 4096, 4097, 1 << 32, 1 << 60, least, greatest} }

// P11.3: Index, At, Span.

func TestIndex(t *testing.T) {
	for _, c := range []struct{ page, root, second, third, last int }{
		{0, 0, 0, 0, 0},
		{1, 0, 0, 0, 1},
		{15, 0, 0, 0, 15},
		{16, 0, 0, 1, 0},
		{255, 0, 0, 15, 15},
		{256, 0, 1, 0, 0},
		{4095, 0, 15, 15, 15},
		{4096, 1, 0, 0, 0},
		{0x1234, 1, 2, 3, 4},
		{0xabcd, 10, 11, 12, 13},
		{65535, 15, 15, 15, 15},
	} {
		for level, want := range []int{c.last, c.third, c.second, c.root} {
			if i := Index(c.page, level); i != want {
				t.Errorf("Index(%d, %d) = %d, want %d", c.page, level, i, want)
			}
			for _, frame := range []int{0, 1, 2, 4094, 4095} {
				if at := At(frame, c.page, level); at != 16*frame+want {
					t.Errorf("At(%d, %d, %d) = %d", frame, c.page, level, at)
				}
			}
		}
	}
}

func TestSpan(t *testing.T) {
	for level, want := range []int{1, 16, 256, 4096} {
		if n := Span(level); n != want {
			t.Errorf("Span(%d) = %d", level, n)
		}
	}
	for _, level := range noLevels() {
		if n := Span(level); n != 0 {
			t.Errorf("Span(%d) = %d", level, n)
		}
	}
}

func TestIndexOfNone(t *testing.T) {
	for _, page := range noPages() {
		for _, level := range append(noLevels(), 0, 1, 2, 3) {
			if i := Index(page, level); i != -1 {
				t.Errorf("Index(%d, %d) = %d", page, level, i)
			}
		}
	}
	for _, level := range noLevels() {
		for _, page := range pages() {
			if i := Index(page, level); i != -1 {
				t.Errorf("Index(%d, %d) = %d", page, level, i)
			}
		}
	}
}

// TestAtOfNone: one of the three is none, or two, or all.
func TestAtOfNone(t *testing.T) {
	frames := append(noFrames(), 0, 1, 4095)
	all := append(noPages(), pages()...)
	levels := append(noLevels(), 0, 1, 2, 3)
	for i, frame := range frames {
		for j, page := range all {
			for k, level := range levels {
				if i >= len(noFrames()) && j >= len(noPages()) && k >= len(noLevels()) {
					continue
				}
				if at := At(frame, page, level); at != -1 {
					t.Errorf("At(%d, %d, %d) = %d", frame, page, level, at)
				}
			}
		}
	}
}

// P11.4: each page has one row of places.

func TestPageOfItsPlaces(t *testing.T) {
	whose := map[[4]int]int{}
	for page := range 65536 {
		var row [4]int
		sum := 0
		for level := range row {
			i := Index(page, level)
			if i < 0 || i > 15 {
				t.Fatalf("Index(%d, %d) = %d", page, level, i)
			}
			row[level] = i
			sum += i * Span(level)
		}
		if sum != page {
			t.Fatalf("%d has the places of %d", page, sum)
		}
		if other, ok := whose[row]; ok {
			t.Fatalf("%d and %d have the places %v", page, other, row)
		}
		whose[row] = page
	}
}

func TestPlacesAreInTheFrame(t *testing.T) {
	for frame := range 4096 {
		for _, page := range pages() {
			for level := range 4 {
				at := At(frame, page, level)
				if at < 16*frame || at > 16*frame+15 || at-16*frame != Index(page, level) {
					t.Fatalf("At(%d, %d, %d) = %d", frame, page, level, at)
				}
			}
		}
	}
}
