// Package field is layer 1: it takes words apart into fields, and lays fields together into words. See shared/doc/01-field.md.
package field

import (
	"iter"
	"math/bits"
)

const wordBits = 64

// Part is a number for a field.
type Part struct {
	V    uint64
	Size int
}

// isField compares low with what size leaves, since the sum of two ints may wrap round.
func isField(low, size int) bool {
	return size >= 1 && size <= wordBits && low >= 0 && low <= wordBits-size
}

// Mask is a field's bits; 0 of no field.
func Mask(low, size int) uint64 {
	if !isField(low, size) {
		return 0
	}
	return ^uint64(0) >> (wordBits - size) << low
}

// Get is a field's number; 0 of no field.
func Get(w uint64, low, size int) uint64 {
	if !isField(low, size) {
		return 0
	}
	return (w & Mask(low, size)) >> low
}

// Put is a word with a number, modulo 2^size, in a field; the word itself, of no field.
func Put(w uint64, low, size int, v uint64) uint64 {
	if !isField(low, size) {
		return w
	}
	mask := Mask(low, size)
	return (w &^ mask) | ((v << low) & mask)
}

// Pack is fields as a word, from the bit 0 on; 0, if they are no fields of one word.
func Pack(l ...Part) uint64 {
	var w uint64
	low := 0
	for _, p := range l {
		// A size that is none, and one that no longer fits, are both no field here.
		if !isField(low, p.Size) {
			return 0
		}
		w = Put(w, low, p.Size, p.V)
		low += p.Size
	}
	return w
}

// Split is a word's fields, from the bit 0 on; none, if they are no fields of one word.
func Split(w uint64, sizes []int) []uint64 {
	// Not made with len(sizes): a row of sizes that is refused may be far longer than any that fits.
	var l []uint64
	low := 0
	for _, size := range sizes {
		if !isField(low, size) {
			return nil
		}
		l = append(l, Get(w, low, size))
		low += size
	}
	return l
}

// Count is how many bits are one.
func Count(w uint64) int {
	return bits.OnesCount64(w)
}

// Ones is the places of the bits that are one, rising.
func Ones(w uint64) []int {
	var l []int
	for at := range places(w) {
		l = append(l, at)
	}
	return l
}

// places hands on the places of ones, rising.
func places(w uint64) iter.Seq[int] {
	return func(yield func(int) bool) {
		for rest := w; rest != 0; rest &= rest - 1 {
			if !yield(bits.TrailingZeros64(rest)) {
				return
			}
		}
	}
}
