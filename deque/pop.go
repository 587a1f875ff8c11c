package deque

import (
	"matryoshka/act"
	"matryoshka/api"
)

// pops is an owner's kind of task: a value is taken at the bottom.
type pops struct{}

func (k pops) position(top, bottom uint64) uint64 { return bottom }

func (k pops) move(at int) api.Act {
	return api.Act{Kind: api.ActLoad, At: at}
}

// Pop is an owner's task that takes a value; nil, if there is no such deque.
func (d Deque) Pop() *Task { return d.task(pops{}, loadsBottom) }

// goOnPopping lowers the bottom ahead of asking for the top: thieves that come later leave the position alone. Of the last value the top alone tells whose it is, since a thief may be at it already.
func (t *Task) goOnPopping(came act.Res) {
	switch t.turn {
	case loadsBottom:
		t.bottom = came.V - 1
		t.turn = lowersBottom
	case lowersBottom:
		t.turn = loadsTop
	case loadsTop:
		t.top = came.V
		t.turn = moves
		if above(t.top, t.bottom) > 0 {
			t.turn = raisesBottom
		}
	case moves:
		t.value = came.V
		t.turn = claimsTop
		if above(t.top, t.bottom) < 0 {
			t.end(true)
		}
	case claimsTop:
		t.has = came.Ok
		t.turn = raisesBottom
	case raisesBottom:
		t.end(t.has)
	}
}
