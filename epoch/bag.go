package epoch

import (
	"cmp"
	"maps"
	"slices"
)

// bag is things that are in it once each, with the epoch in which each one was laid into it.
type bag[T cmp.Ordered] map[T]int

func (b bag[T]) has(x T) bool {
	_, ok := b[x]
	return ok
}

// till is what was laid into the bag in the epoch last, or earlier: sorted, since the order in which a map is gone over is chance.
func (b bag[T]) till(last int) []T {
	var l []T
	for x, since := range b {
		if since <= last {
			l = append(l, x)
		}
	}
	slices.Sort(l)
	return l
}

// takeTill is what till tells, and it's in the bag no more.
func (b bag[T]) takeTill(last int) []T {
	l := b.till(last)
	for _, x := range l {
		delete(b, x)
	}
	return l
}

func (b bag[T]) clone() bag[T] { return maps.Clone(b) }
