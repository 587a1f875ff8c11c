package field

import (
	"math"
	"slices"
	"testing"
)

const all = math.MaxUint64

// words holds the edges of a word, and some words without a pattern in them.
var words = []uint64{
	0, 1, 2, 10, 1 << 31, 1 << 32, 1 << 63, 1<<63 | 1, all, all - 1, all >> 1,
	0x5555555555555555, 0xaaaaaaaaaaaaaaaa, 0x0123456789abcdef, 0xfedcba9876543210, 0x9e3779b97f4a7c15,
}

// edges holds places and sizes about all bounds, and those whose sum wraps round.
func edges() []int {
	l := []int{math.MinInt, math.MinInt + 1, math.MinInt + 64, math.MinInt32, -64, math.MaxInt32, math.MaxInt - 64, math.MaxInt - 63, math.MaxInt - 1, math.MaxInt, 128, 255, 256}
	for i := -3; i <= 67; i++ {
		l = append(l, i)
	}
	return l
}

// The naive forms below say the promises bit by bit, without the code that is tested.

func inField(bit, low, size int) bool {
	return size >= 1 && size <= 64 && low >= 0 && low <= 63 && low+size <= 64 && bit >= low && bit < low+size
}

func bitOf(w uint64, bit int) uint64 {
	return w / uint64(math.Ldexp(1, bit)) % 2
}

func naiveMask(low, size int) uint64 {
	var m uint64
	for bit := range 64 {
		if inField(bit, low, size) {
			m += uint64(math.Ldexp(1, bit))
		}
	}
	return m
}

func naiveGet(w uint64, low, size int) uint64 {
	var v, weight uint64 = 0, 1
	for bit := range 64 {
		if inField(bit, low, size) {
			v += bitOf(w, bit) * weight
			weight *= 2
		}
	}
	return v
}

func naivePut(w uint64, low, size int, v uint64) uint64 {
	var out uint64
	for bit := range 64 {
		from := bitOf(w, bit)
		if inField(bit, low, size) {
			from = bitOf(v, bit-low)
		}
		out += from * uint64(math.Ldexp(1, bit))
	}
	return out
}

// P1.1: Mask.

func TestMaskOfNamedFields(t *testing.T) {
	for _, c := range []struct {
		low, size int
		want      uint64
	}{
		{0, 1, 1},
		{5, 1, 0x20},
		{63, 1, 1 << 63},
		{0, 64, all},
		{1, 63, all - 1},
		{0, 63, all >> 1},
		{60, 4, 0xf << 60},
		{4, 8, 0xff0},
		{32, 32, 0xffffffff << 32},
		{0, 0, 0},
		{0, -1, 0},
		{0, 65, 0},
		{-1, 1, 0},
		{-1, 64, 0},
		{1, 64, 0},
		{61, 4, 0},
		{63, 2, 0},
		{64, 1, 0},
		{64, 0, 0},
		{math.MaxInt, 1, 0},
		{1, math.MaxInt, 0},
		{math.MaxInt, math.MaxInt, 0},
		{math.MinInt, math.MinInt, 0},
		{math.MinInt, math.MaxInt, 0},
	} {
		if got := Mask(c.low, c.size); got != c.want {
			t.Errorf("Mask(%d, %d) = %#x, want %#x", c.low, c.size, got, c.want)
		}
	}
}

func TestMaskBitByBit(t *testing.T) {
	for _, low := range edges() {
		for _, size := range edges() {
			if got, want := Mask(low, size), naiveMask(low, size); got != want {
				t.Errorf("Mask(%d, %d) = %#x, want %#x", low, size, got, want)
			}
		}
	}
}

// P1.1: Get.

func TestGetOfNamedFields(t *testing.T) {
	for _, c := range []struct {
		w         uint64
		low, size int
		want      uint64
	}{
		{0xabcd, 4, 8, 0xbc},
		{0xabcd, 0, 64, 0xabcd},
		{all, 0, 64, all},
		{1 << 63, 63, 1, 1},
		{all >> 1, 63, 1, 0},
		{0xf123456789abcdef, 60, 4, 0xf},
		{4, 2, 1, 1},
		{4, 1, 1, 0},
		{all, 0, 0, 0},
		{all, 0, -1, 0},
		{all, 0, 65, 0},
		{all, -1, 1, 0},
		{all, 1, 64, 0},
		{all, 64, 1, 0},
		{all, math.MaxInt, 64, 0},
		{all, math.MinInt, 1, 0},
		{all, 0, math.MinInt, 0},
	} {
		if got := Get(c.w, c.low, c.size); got != c.want {
			t.Errorf("Get(%#x, %d, %d) = %#x, want %#x", c.w, c.low, c.size, got, c.want)
		}
	}
}

func TestGetBitByBit(t *testing.T) {
	for _, w := range words {
		for _, low := range edges() {
			for _, size := range edges() {
				if got, want := Get(w, low, size), naiveGet(w, low, size); got != want {
					t.Fatalf("Get(%#x, %d, %d) = %#x, want %#x", w, low, size, got, want)
				}
			}
		}
	}
}

// P1.1: Put.

func TestPutOfNamedFields(t *testing.T) {
	for _, c := range []struct {
		w         uint64
		low, size int
		v, want   uint64
	}{
		{0, 4, 4, 0x1f, 0xf0}, // the chapter's example
		{0xabcd, 4, 8, 0x1ff, 0xaffd},
		{0xabcd, 4, 8, 0x100, 0xa00d},
		{5, 0, 64, 9, 9},
		{all, 0, 64, 0, 0},
		{0, 63, 1, 1, 1 << 63},
		{all, 63, 1, 2, all >> 1},
		{0, 60, 4, 0x1e, 0xe << 60},
		{all, 0, 1, 0, all - 1},
		{0x123, 0, 0, all, 0x123},
		{0x123, 0, -1, all, 0x123},
		{0x123, 0, 65, all, 0x123},
		{0x123, -1, 2, all, 0x123},
		{0x123, 1, 64, all, 0x123},
		{0x123, 64, 1, all, 0x123},
		{0x123, math.MaxInt, 1, all, 0x123},
		{0x123, 1, math.MaxInt, all, 0x123},
		{0x123, math.MinInt, math.MinInt, all, 0x123},
	} {
		if got := Put(c.w, c.low, c.size, c.v); got != c.want {
			t.Errorf("Put(%#x, %d, %d, %#x) = %#x, want %#x", c.w, c.low, c.size, c.v, got, c.want)
		}
	}
}

func TestPutBitByBit(t *testing.T) {
	for _, w := range []uint64{0, all, 0x0123456789abcdef, 0x9e3779b97f4a7c15} {
		for _, v := range []uint64{0, 1, all, 0xfedcba9876543210} {
			for _, low := range edges() {
				for _, size := range edges() {
					if got, want := Put(w, low, size, v), naivePut(w, low, size, v); got != want {
						t.Fatalf("Put(%#x, %d, %d, %#x) = %#x, want %#x", w, low, size, v, got, want)
					}
				}
			}
		}
	}
}

// P1.2: Pack.

// ones is n parts of 1 bit, each with that number.
func ones(n int, v uint64) []Part {
	return slices.Repeat([]Part{{V: v, Size: 1}}, n)
}

func TestPack(t *testing.T) {
	for _, c := range []struct {
		name string
		l    []Part
		want uint64
	}{
		{"nil", nil, 0},
		{"no parts", []Part{}, 0},
		{"1 bit", []Part{{1, 1}}, 1},
		{"64 bits", []Part{{all, 64}}, all},
		{"the first one is least", []Part{{0xc, 4}, {0xb, 4}, {0xa, 4}}, 0xabc},
		{"modulo its size", []Part{{0xff, 4}, {2, 60}}, 0x2f},
		{"modulo its size, in the middle", []Part{{0, 4}, {0x1f, 4}, {0, 4}}, 0xf0},
		{"together below 64", []Part{{1, 31}, {1, 32}}, 1 | 1<<31},
		{"together just 64", []Part{{1, 32}, {1, 32}}, 1 | 1<<32},
		{"the last bit", []Part{{0, 63}, {1, 1}}, 1 << 63},
		{"64 of 1 bit", ones(64, 1), all},
		{"together just above 64", []Part{{1, 32}, {1, 33}}, 0},
		{"one bit behind 64", []Part{{1, 64}, {1, 1}}, 0},
		{"65 of 1 bit", ones(65, 1), 0},
		{"far above 64", slices.Repeat([]Part{{1, 64}}, 1000), 0},
		{"size 0", []Part{{1, 0}}, 0},
		{"size 0 first", []Part{{1, 0}, {1, 1}}, 0},
		{"size 0 last", []Part{{1, 1}, {1, 0}}, 0},
		{"size 0 behind 64 bits", []Part{{1, 64}, {0, 0}}, 0},
		{"size 65", []Part{{1, 65}}, 0},
		{"size below 0", []Part{{1, 8}, {1, -1}}, 0},
		{"sizes that undo one another", []Part{{1, 64}, {1, -8}, {1, 8}}, 0},
		{"least size", []Part{{1, 1}, {1, math.MinInt}}, 0},
		{"greatest size", []Part{{1, 1}, {1, math.MaxInt}}, 0},
		{"sizes whose sum wraps round", []Part{{1, 8}, {1, math.MaxInt}, {1, math.MaxInt}, {1, 2}}, 0},
	} {
		if got := Pack(c.l...); got != c.want {
			t.Errorf("%s: Pack = %#x, want %#x", c.name, got, c.want)
		}
	}
	if got := Pack(); got != 0 {
		t.Errorf("Pack() = %#x, want 0", got)
	}
	if got := Pack(Part{V: 3, Size: 2}, Part{V: 1, Size: 2}); got != 7 {
		t.Errorf("Pack of two parts = %#x, want 7", got)
	}
}

// P1.2: Split.

func TestSplit(t *testing.T) {
	for _, c := range []struct {
		name  string
		w     uint64
		sizes []int
		want  []uint64
	}{
		{"nil", all, nil, nil},
		{"no sizes", all, []int{}, nil},
		{"1 bit", 3, []int{1}, []uint64{1}},
		{"64 bits", all, []int{64}, []uint64{all}},
		{"the least one is first", 0xabc, []int{4, 4, 1}, []uint64{0xc, 0xb, 0}},
		{"together below 64", all, []int{31, 32}, []uint64{all >> 33, all >> 32}},
		{"together just 64", 0x0123456789abcdef, []int{32, 32}, []uint64{0x89abcdef, 0x01234567}},
		{"the last bit", 1 << 63, []int{63, 1}, []uint64{0, 1}},
		{"64 of 1 bit", all, slices.Repeat([]int{1}, 64), slices.Repeat([]uint64{1}, 64)},
		{"together just above 64", all, []int{60, 5}, nil},
		{"one bit behind 64", all, []int{64, 1}, nil},
		{"65 of 1 bit", all, slices.Repeat([]int{1}, 65), nil},
		{"far above 64", all, slices.Repeat([]int{64}, 1000), nil},
		{"size 0", all, []int{0}, nil},
		{"size 0 first", all, []int{0, 1}, nil},
		{"size 0 last", all, []int{2, 0}, nil},
		{"size 0 behind 64 bits", all, []int{64, 0}, nil},
		{"size 65", all, []int{65}, nil},
		{"size below 0", all, []int{8, -1}, nil},
		{"sizes that undo one another", all, []int{64, -8, 8}, nil},
		{"least size", all, []int{1, math.MinInt}, nil},
		{"greatest size", all, []int{1, math.MaxInt}, nil},
		{"sizes whose sum wraps round", all, []int{8, math.MaxInt, math.MaxInt, 2}, nil},
	} {
		if got := Split(c.w, c.sizes); !slices.Equal(got, c.want) {
			t.Errorf("%s: Split(%#x) = %#x, want %#x", c.name, c.w, got, c.want)
		}
	}
}

// P1.3: Count and Ones.

func TestCountAndOnes(t *testing.T) {
	every := make([]int, 64)
	for i := range every {
		every[i] = i
	}
	for _, c := range []struct {
		w    uint64
		want []int
	}{
		{0, nil},
		{1, []int{0}},
		{10, []int{1, 3}}, // the chapter's example
		{1 << 63, []int{63}},
		{1<<63 | 5, []int{0, 2, 63}},
		{3 << 31, []int{31, 32}},
		{all, every},
		{all >> 1, every[:63]},
		{all - 1, every[1:]},
	} {
		if got := Count(c.w); got != len(c.want) {
			t.Errorf("Count(%#x) = %d, want %d", c.w, got, len(c.want))
		}
		if got := Ones(c.w); !slices.Equal(got, c.want) {
			t.Errorf("Ones(%#x) = %v, want %v", c.w, got, c.want)
		}
	}
}

func TestCountAndOnesBitByBit(t *testing.T) {
	for _, w := range words {
		var want []int
		for bit := range 64 {
			if bitOf(w, bit) == 1 {
				want = append(want, bit)
			}
		}
		if got := Ones(w); !slices.Equal(got, want) {
			t.Errorf("Ones(%#x) = %v, want %v", w, got, want)
		}
		if got := Count(w); got != len(want) {
			t.Errorf("Count(%#x) = %d, want %d", w, got, len(want))
		}
	}
	for bit := range 64 {
		w := uint64(1) << bit
		if got := Ones(w); !slices.Equal(got, []int{bit}) || Count(w) != 1 {
			t.Errorf("one bit %d: Ones = %v, Count = %d", bit, got, Count(w))
		}
	}
}

// Whoever goes over places may leave early, and begin anew.
func TestPlacesStopWhenLeft(t *testing.T) {
	seq := places(0xb1)
	for range 2 {
		var got []int
		for at := range seq {
			got = append(got, at)
			if len(got) == 2 {
				break
			}
		}
		if !slices.Equal(got, []int{0, 4}) {
			t.Errorf("the first two places of 0xb1 = %v, want [0 4]", got)
		}
	}
}

// P1.4: laws.

func TestWhatWasPutIsGot(t *testing.T) {
	for _, w := range words {
		for _, v := range words {
			for low := range 64 {
				for size := 1; size <= 64-low; size++ {
					checkPutGet(t, w, low, size, v)
				}
			}
		}
	}
}

func checkPutGet(t *testing.T, w uint64, low, size int, v uint64) {
	t.Helper()
	put := Put(w, low, size, v)
	want := v
	if size < 64 {
		want = v % (1 << size)
	}
	if got := Get(put, low, size); got != want {
		t.Fatalf("put %#x into %#x at %d, %d: got %#x, want %#x", v, w, low, size, got, want)
	}
	if other := (put ^ w) &^ Mask(low, size); other != 0 {
		t.Fatalf("put %#x into %#x at %d, %d: other bits %#x have changed", v, w, low, size, other)
	}
	if same := Put(w, low, size, Get(w, low, size)); same != w {
		t.Fatalf("what was got of %#x at %d, %d and is put again makes %#x", w, low, size, same)
	}
}

func TestWhatIsPackedIsSplit(t *testing.T) {
	for _, sizes := range rowsOfSizes() {
		for i := range words {
			var parts []Part
			var want []uint64
			for j, size := range sizes {
				v := words[(i+j)%len(words)]
				parts = append(parts, Part{V: v, Size: size})
				want = append(want, naiveGet(v, 0, size))
			}
			if got := Split(Pack(parts...), sizes); !slices.Equal(got, want) {
				t.Fatalf("sizes %v: packed %#x, split %#x", sizes, want, got)
			}
		}
	}
}

func TestWhatIsSplitIsPacked(t *testing.T) {
	for _, sizes := range rowsOfSizes() {
		sum := 0
		for _, size := range sizes {
			sum += size
		}
		for _, w := range words {
			var parts []Part
			for i, v := range Split(w, sizes) {
				parts = append(parts, Part{V: v, Size: sizes[i]})
			}
			if got, want := Pack(parts...), naiveGet(w, 0, sum); got != want {
				t.Fatalf("sizes %v: split %#x, packed %#x", sizes, want, got)
			}
		}
	}
}

// rowsOfSizes is rows that fit: all of two, equal ones, and rising ones.
func rowsOfSizes() [][]int {
	l := [][]int{nil, {64}, {1, 2, 3, 4, 5, 6, 7, 8, 9, 10}, {1, 1, 62}, {16, 16, 16, 16}, {3, 4, 53}}
	for a := 1; a < 64; a++ {
		for b := 1; a+b <= 64; b++ {
			l = append(l, []int{a, b})
		}
		l = append(l, slices.Repeat([]int{a}, 64/a))
	}
	return l
}

// R4: what is handed in is neither changed nor kept, what is answered is new.

func TestListsHandedInStayAsTheyAre(t *testing.T) {
	sizes := []int{4, 8, 52, 77, 78}
	Split(all, sizes[:3])
	Split(all, sizes)
	if !slices.Equal(sizes, []int{4, 8, 52, 77, 78}) {
		t.Errorf("Split has changed the sizes: %v", sizes)
	}
	parts := []Part{{0xff, 4}, {1, 8}, {2, 77}}
	Pack(parts[:2]...)
	Pack(parts...)
	if !slices.Equal(parts, []Part{{0xff, 4}, {1, 8}, {2, 77}}) {
		t.Errorf("Pack has changed the parts: %v", parts)
	}
}

func TestAnswersAreNewMemory(t *testing.T) {
	a, b := Ones(all), Ones(all)
	spoil(a, -1)
	if b[0] != 0 || !slices.Equal(Ones(all), b) {
		t.Error("answers of Ones share memory")
	}
	c, d := Split(0x321, []int{4, 4, 4}), Split(0x321, []int{4, 4, 4})
	spoil(c, 99)
	if !slices.Equal(d, []uint64{1, 2, 3}) || !slices.Equal(Split(0x321, []int{4, 4, 4}), d) {
		t.Error("answers of Split share memory")
	}
}

// spoil writes over a list and the spare room behind it.
func spoil[T any](l []T, v T) {
	l = l[:cap(l)]
	for i := range l {
		l[i] = v
	}
}
