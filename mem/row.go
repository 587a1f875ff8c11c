package mem

// row is things side by side, whose number stays as it is.
type row[T any] []T

func (r row[T]) has(at int) bool {
	return at >= 0 && at < len(r)
}

// hasAll compares at with what n leaves, since the sum of two ints may wrap round.
func (r row[T]) hasAll(at, n int) bool {
	return n >= 1 && at >= 0 && at <= len(r)-n
}

// part is new memory, so that whoever is told it can't reach into the row; none, if not all of it is there.
func (r row[T]) part(at, n int) row[T] {
	if !r.hasAll(at, n) {
		return nil
	}
	l := make(row[T], n)
	copy(l, r[at:])
	return l
}
