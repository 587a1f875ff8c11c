package seqlock

import (
	"matryoshka/api"
	"matryoshka/mem"
)

// firstLoad is a reader's turn behind loadsNumber. Those from it on are the loads of values, then that of the number again.
const firstLoad = 1

// Reader reads a lock's values.
type Reader struct {
	program
	values [maxSize]uint64
	tries  int
	whole  bool // the number was the same at first and at last: the values are of one writer
}

// Read is a reader; nil, if there is no such lock.
func (l Lock) Read() *Reader {
	if !l.canBe() {
		return nil
	}
	return &Reader{program: program{lock: l, end: firstLoad + l.Size + 1}}
}

// Step does a reader's next step, and tells whether it's done then.
func (r *Reader) Step(m *mem.Mem) bool {
	if r == nil || r.isNone() {
		return false
	}
	if r.isDone() {
		return true
	}
	if r.turn == loadsNumber {
		r.tries++
	}
	if came, ok := r.do(m, r.Next()); ok {
		r.goOn(came.V)
	}
	return r.isDone()
}

// goOn chooses the next turn by the word that was loaded in this one.
func (r *Reader) goOn(word uint64) {
	switch {
	case r.turn == loadsNumber:
		r.begin(word)
	case r.turn < firstLoad+r.lock.Size:
		r.values[r.turn-firstLoad] = word
		r.turn++
	case word == r.number:
		r.whole = true
		r.turn++
	default:
		r.anew()
	}
}

// Next is the act of a reader's next step; a zero one, if it's done.
func (r *Reader) Next() api.Act {
	if r == nil || r.isDone() {
		return api.Act{}
	}
	if r.turn == loadsNumber || r.turn == firstLoad+r.lock.Size {
		return r.load(0)
	}
	return r.load(1 + r.turn - firstLoad)
}

// Values is what a reader read, and yes; none and no, if it isn't done, or an error ended it.
func (r *Reader) Values() ([]uint64, bool) {
	if r == nil || !r.whole {
		return nil, false
	}
	told := make([]uint64, r.lock.Size)
	copy(told, r.values[:])
	return told, true
}

// Tries is how often a reader loaded the number at first.
func (r *Reader) Tries() int {
	if r == nil {
		return 0
	}
	return r.tries
}
