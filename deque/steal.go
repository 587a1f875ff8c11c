package deque

import (
	"matryoshka/act"
	"matryoshka/api"
)

// steals is a thief's kind of task: a value is taken at the top.
type steals struct{}

func (k steals) position(top, bottom uint64) uint64 { return top }

func (k steals) move(at int) api.Act {
	return api.Act{Kind: api.ActLoad, At: at}
}

// Steal is a thief's task that takes a value; nil, if there is no such deque.
func (d Deque) Steal() *Task { return d.task(steals{}, loadsTop) }

// goOnStealing loads the value ahead of claiming it: behind the cas the owner may push into that slot.
func (t *Task) goOnStealing(came act.Res) {
	switch t.turn {
	case loadsTop:
		t.top = came.V
		t.turn = loadsBottom
	case loadsBottom:
		t.turn = moves
		if above(t.top, came.V) >= 0 {
			t.end(false)
		}
	case moves:
		t.value = came.V
		t.turn = claimsTop
	case claimsTop:
		t.end(came.Ok)
	}
}
