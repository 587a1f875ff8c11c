package seqlock

import (
	"matryoshka/act"
	"matryoshka/api"
	"matryoshka/mem"
)

// A writer's turns behind loadsNumber. Those from firstStore on are the stores of values, then that of the number.
const (
	claims     = 1
	firstStore = 2
)

// Writer writes a lock's values.
type Writer struct {
	program
	values [maxSize]uint64
}

// Write is a writer of these values; nil, if there is no such lock, or the values are not Size.
func (l Lock) Write(v []uint64) *Writer {
	if !l.canBe() || len(v) != l.Size {
		return nil
	}
	w := &Writer{program: program{lock: l, end: firstStore + l.Size + 1}}
	copy(w.values[:], v)
	return w
}

// Step does a writer's next step, and tells whether it's done then.
func (w *Writer) Step(m *mem.Mem) bool {
	if w == nil || w.isNone() {
		return false
	}
	if w.isDone() {
		return true
	}
	if came, ok := w.do(m, w.Next()); ok {
		w.goOn(came)
	}
	return w.isDone()
}

// goOn chooses the next turn by what came of this one's act.
func (w *Writer) goOn(came act.Res) {
	switch {
	case w.turn == loadsNumber:
		w.begin(came.V)
	case w.turn == claims && !came.Ok:
		w.anew()
	default:
		w.turn++
	}
}

// Next is the act of a writer's next step; a zero one, if it's done.
func (w *Writer) Next() api.Act {
	if w == nil || w.isDone() {
		return api.Act{}
	}
	switch w.turn {
	case loadsNumber:
		return w.load(0)
	case claims:
		return api.Act{Kind: api.ActCas, At: w.lock.At, A: w.number, B: w.number + 1}
	case firstStore + w.lock.Size:
		return w.store(0, w.number+2)
	}
	i := w.turn - firstStore
	return w.store(1+i, w.values[i])
}

// Turn is where a writer stands.
func (w *Writer) Turn() int {
	if w == nil {
		return 0
	}
	return w.turn
}
