package deque

import (
	"matryoshka/act"
	"matryoshka/api"
	"matryoshka/mem"
)

// The turns of tasks, by what is done in them. Each kind goes through some of these, in an order of its own.
const (
	loadsTop = iota
	loadsBottom
	lowersBottom
	moves
	claimsTop
	raisesBottom
	done
)

// kind is what a task is: of the acts themselves, only the one on a slot differs from kind to kind.
type kind interface {
	// position is the one whose slot it is.
	position(top, bottom uint64) uint64
	// move is what is done to that slot.
	move(at int) api.Act
}

// Task is something that is done with a deque, one act a step: a push, a pop or a steal.
type Task struct {
	deque  Deque
	own    kind // nil, of a task that Push, Pop and Steal did not give
	turn   int
	top    uint64 // the position that a thief is at, and that an owner's pop found at the top
	bottom uint64 // the position that an owner is at
	value  uint64
	has    bool // the value is what the task is done with, or will be if no error comes
}

// task is one of some kind that begins with this turn; nil, if there is no such deque.
func (d Deque) task(own kind, first int) *Task {
	if !d.canBe() {
		return nil
	}
	return &Task{deque: d, own: own, turn: first}
}

func (t *Task) isNone() bool { return t == nil || t.own == nil }

func (t *Task) isDone() bool { return t.turn == done }

// Step does a task's next act, and tells whether it's done then.
func (t *Task) Step(m *mem.Mem) bool {
	if t.isNone() {
		return false
	}
	if !t.isDone() {
		t.goOn(act.Do(m, t.Next()))
	}
	return t.isDone()
}

// Next is the act of a task's next step; a zero one, if it's done.
func (t *Task) Next() api.Act {
	if t.isNone() {
		return api.Act{}
	}
	d := t.deque
	switch t.turn {
	case loadsTop:
		return api.Act{Kind: api.ActLoad, At: d.top()}
	case loadsBottom:
		return api.Act{Kind: api.ActLoad, At: d.bottom()}
	case lowersBottom:
		return api.Act{Kind: api.ActStore, At: d.bottom(), A: t.bottom}
	case moves:
		return t.own.move(d.slot(t.own.position(t.top, t.bottom)))
	case claimsTop:
		return api.Act{Kind: api.ActCas, At: d.top(), A: t.top, B: t.top + 1}
	case raisesBottom:
		return api.Act{Kind: api.ActStore, At: d.bottom(), A: t.bottom + 1}
	}
	return api.Act{}
}

// goOn chooses the next turn by what came of this one's act; each kind has its own order of turns.
func (t *Task) goOn(came act.Res) {
	if came.E != api.OK {
		t.end(false)
		return
	}
	switch own := t.own.(type) {
	case pushes:
		t.goOnPushing(own.value, came)
	case pops:
		t.goOnPopping(came)
	case steals:
		t.goOnStealing(came)
	}
}

// end makes a task done, with its value or without anything.
func (t *Task) end(has bool) {
	t.has = has
	t.turn = done
}

// Result is the value, whether the task is done with it, and whether it's done at all.
func (t *Task) Result() (uint64, bool, bool) {
	if t.isNone() {
		return 0, false, false
	}
	if !t.isDone() || !t.has {
		return 0, false, t.isDone()
	}
	return t.value, true, true
}
