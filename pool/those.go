package pool

import (
	"iter"

	"matryoshka/desc"
)

// those hands on the numbers of the frames whose descriptors are meant, rising.
func (p *Pool) those(meant func(desc.Desc) bool) iter.Seq[int] {
	return func(yield func(int) bool) {
		if p.isNone() {
			return
		}
		for f, d := range p.frames {
			if meant(d) && !yield(f) {
				return
			}
		}
	}
}

func ofKind(kind int) func(desc.Desc) bool {
	return func(d desc.Desc) bool { return d.Kind == kind }
}

func ofOwner(owner int) func(desc.Desc) bool {
	return func(d desc.Desc) bool { return d.Owner == owner }
}

// firstFree is the free frame with the least number, if there is one.
func (p *Pool) firstFree() (int, bool) {
	for f := range p.those(ofKind(desc.Free)) {
		return f, true
	}
	return 0, false
}

// Count is how many frames are of a kind.
func (p *Pool) Count(kind int) int {
	n := 0
	for range p.those(ofKind(kind)) {
		n++
	}
	return n
}

// Owned is the numbers of an owner's frames, rising; of 0, those of nobody.
func (p *Pool) Owned(owner int) []int {
	var l []int
	for f := range p.those(ofOwner(owner)) {
		l = append(l, f)
	}
	return l
}
