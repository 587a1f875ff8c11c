package epoch

import "matryoshka/api"

// grace is how many epochs what is retired waits. One is too few: the epoch may go on once past a CPU that is pinned.
const grace = 2

// Retire takes a frame out of use: it waits, from this epoch on.
func (e *Epochs) Retire(f int) api.Errno {
	switch {
	case e.isNone():
		return api.ErrNil
	case f < 0:
		return api.ErrArg
	case e.waits.has(f):
		return api.ErrTwice
	}
	e.waits[f] = e.now
	return api.OK
}

// Waiting is all that wait, rising.
func (e *Epochs) Waiting() []int {
	if e.isNone() {
		return nil
	}
	return e.waits.till(e.now)
}

// Free is those that nobody can see any more, rising; they wait no more.
func (e *Epochs) Free() []int {
	if e.isNone() {
		return nil
	}
	return e.waits.takeTill(e.now - grace)
}
