package deque

import (
	"matryoshka/act"
	"matryoshka/api"
)

// pushes is an owner's kind of task: a value comes to the bottom.
type pushes struct{ value uint64 }

func (k pushes) position(top, bottom uint64) uint64 { return bottom }

func (k pushes) move(at int) api.Act {
	return api.Act{Kind: api.ActStore, At: at, A: k.value}
}

// Push is an owner's task that pushes a value; nil, if there is no such deque.
func (d Deque) Push(v uint64) *Task { return d.task(pushes{value: v}, loadsBottom) }

// goOnPushing raises the bottom last: a thief that sees the new bottom finds the value in its slot.
func (t *Task) goOnPushing(v uint64, came act.Res) {
	switch t.turn {
	case loadsBottom:
		t.bottom = came.V
		t.turn = loadsTop
	case loadsTop:
		t.turn = moves
		if above(t.bottom, came.V) >= int64(t.deque.Size) {
			t.end(false)
		}
	case moves:
		t.turn = raisesBottom
	case raisesBottom:
		t.value = v
		t.end(true)
	}
}
